"""Section 4 of the document: values.py."""

import unittest

from gathermill.errors import Unfit
from gathermill.values import (
    is_constant, is_name, is_number, is_object, is_reference, is_value, is_word, kind_of, one_result, showing,
    two_result, words_of,
)
from tests.examples_of_document import check_file

KEYS = ["let", "fn", "if", "else", "while", "break", "return", "show", "fail", "try", "catch", "true", "false",
        "nothing", "and", "or", "not", "many", "len"]
TOP = 10 ** 9
DEEP = ()
for _ in range(99):
    DEEP = (DEEP,)
STRANGE = (
    [], (), ["a"], ("a",), [1], (1,), "", "A", "aB", "a1", "a b", "ab_", "@", "\n", ("@",), ["@", 1], ("@", -1),
    ("@", 1, 1), ("@", "a"), ("@", None), ("@", True), ("#", 1), (["@"], 1), ("@", [1]), DEEP, [DEEP], "a" * 13,
    "a" * 100000, TOP + 1, -TOP - 1, 10 ** 5000, ("array",), ("cell",), ("function", 1),
)


class KindsOfThingsTest(unittest.TestCase):
    def test_examples(self):
        check_file(self, "04")

    def test_numbers(self):
        for thing in (0, 1, -1, TOP, -TOP):
            self.assertIs(is_number(thing), True)
        for thing in (TOP + 1, -TOP - 1, 10 ** 5000, True, False, None, "1", "", [1], (1,), ()):
            self.assertIs(is_number(thing), False)

    def test_words(self):
        for thing in ("a", "z", "abcdefghijkl", "let", "true", "kind"):
            self.assertIs(is_word(thing), True)
        for thing in ("", "abcdefghijklm", "A", "aZ", "a1", "a ", " a", "a\n", "`", "{", 1, None, True, ["a"], ("a",)):
            self.assertIs(is_word(thing), False)

    def test_names(self):
        for thing in ("a", "abcdefghijkl", "lets", "fns", "i", "deep", "room", "array", "number"):
            self.assertIs(is_name(thing), True)
        for thing in KEYS + ["", "abcdefghijklm", "X", "a1", 1, None, False, ["a"], ("a",)]:
            self.assertIs(is_name(thing), False)

    def test_constants(self):
        for thing in (0, TOP, -TOP, True, False, None, "a", "abcdefghijkl", "let"):
            self.assertIs(is_constant(thing), True)
        for thing in STRANGE + (("@", 0),):
            self.assertIs(is_constant(thing), False)

    def test_references(self):
        for thing in (("@", 0), ("@", 7), ("@", 10 ** 30)):
            self.assertIs(is_reference(thing), True)
            self.assertIs(is_value(thing), True)
        for thing in STRANGE + (0, None, "a", True):
            self.assertIs(is_reference(thing), False)

    def test_values(self):
        for thing in (0, -TOP, True, False, None, "kind", ("@", 0)):
            self.assertIs(is_value(thing), True)
        for thing in STRANGE:
            self.assertIs(is_value(thing), False)

    def test_objects(self):
        for thing in (
            ("array", ()), ("array", (1, None, "a", ("@", 3), True)), ("array", (0,) * 5000), ("cell", None),
            ("cell", ("@", 0)), ("function", 0, ()), ("function", 10 ** 20, (("@", 0), ("@", 9))),
        ):
            self.assertIs(is_object(thing), True)

    def test_what_is_no_object(self):
        for thing in STRANGE + (
            0, None, "array", ["array", ()], ("array", [1]), ("array", []), ("array", 1), ("array", "ab"),
            ("array", (1, "A")), ("array", (["@", 0],)), ("array", ((),)), ("array", (), ()), ("cell", ()),
            ("cell", (1,)), ("cell", 1, 2), ("cell", ["@", 0]), ("cell", TOP + 1), ("function", -1, ()),
            ("function", True, ()), ("function", 1, (1,)), ("function", 1, [("@", 0)]), ("function", 1, (["@", 0],)),
            ("function", 1, (), ()), ("function", None, ()), ("function", ()), ("free",), ("free", 1), (1, 2),
            (("array",), ()), (["array"], ()), ("array", DEEP), ("cell", DEEP), (DEEP, DEEP),
        ):
            self.assertIs(is_object(thing), False)

    def test_thing_by_name(self):
        for tells in (is_number, is_word, is_name, is_constant, is_reference, is_value, is_object):
            self.assertIs(tells(thing=[]), False)


class TellingOfValuesTest(unittest.TestCase):
    def test_kinds(self):
        wanted = {"number": [0, 1, -TOP], "truth": [True, False], "nothing": [None], "word": ["a", "nothing"],
                  "reference": [("@", 0), ["@", 0]]}
        for kind, values in wanted.items():
            for value in values:
                self.assertEqual(kind_of(value), kind)
        self.assertEqual(kind_of(value=3), "number")

    def test_words_of_objects(self):
        self.assertEqual([words_of(("array", (0,) * many)) for many in (0, 1, 9)], [1, 2, 10])
        self.assertEqual([words_of(("function", 1, (("@", 0),) * many)) for many in (0, 1, 9)], [1, 2, 10])
        self.assertEqual(words_of(("cell", ("@", 5))), 2)
        self.assertEqual([words_of(["array", [1, 2]]), words_of(["cell", ["@", 1]]), words_of(["function", 1, []])],
                         [3, 2, 1])
        self.assertEqual(words_of(item=("cell", 1)), 2)

    def test_showings(self):
        self.assertEqual([showing(value, None, None) for value in (0, 7, -7, TOP, -TOP)],
                         ["0", "7", "-7", "1000000000", "-1000000000"])
        self.assertEqual([showing(value, None, None) for value in (True, False, None, "true", "abcdefghijkl")],
                         ["true", "false", "nothing", "true", "abcdefghijkl"])

    def test_showings_of_references(self):
        self.assertEqual(showing(("@", 0), ("array", ()), None), "array 0")
        self.assertEqual(showing(["@", 0], ["array", [1, ["@", 2]]], None), "array 2")
        self.assertEqual(showing(("@", 3), ("function", 9, (("@", 1),) * 4), 0), "function 0")
        self.assertEqual(showing(names=12, item=["function", 9, []], value=["@", 3]), "function 12")

    def test_a_cell_is_not_shown(self):
        for item in (("cell", 1), ["cell", None], ("cell", ("@", 0))):
            with self.assertRaises(Unfit):
                showing(("@", 0), item, 0)

    def test_the_item_is_not_looked_at_where_it_is_not_needed(self):
        self.assertEqual(showing(3, ("cell", 1), 0), "3")


class ResultsTest(unittest.TestCase):
    def check(self, told, wanted):
        self.assertEqual(repr(told), repr(wanted))

    def test_contraries(self):
        for value, result in ((0, 0), (5, -5), (-5, 5), (TOP, -TOP), (-TOP, TOP)):
            self.check(one_result("-", value), (True, result))
        self.check(one_result("not", True), (True, False))
        self.check(one_result(value=False, op="not"), (True, True))

    def test_lacks_of_one(self):
        for value in (True, False, None, "a", ("@", 0), ["@", 0]):
            self.check(one_result("-", value), (False, "kind"))
        for value in (0, 1, None, "true", ("@", 0), ["@", 0]):
            self.check(one_result("not", value), (False, "kind"))

    def test_sums_differences_products(self):
        self.check([two_result(op, 7, -3) for op in ("+", "-", "*")], [(True, 4), (True, 10), (True, -21)])
        self.check(two_result("+", TOP - 1, 1), (True, TOP))
        self.check(two_result("-", -TOP + 1, 1), (True, -TOP))
        self.check(two_result("*", -1, TOP), (True, -TOP))

    def test_range(self):
        for op, one, other in (("+", TOP, 1), ("+", -1, -TOP), ("-", TOP, -1), ("-", -TOP, 1), ("*", TOP, 2),
                               ("*", 31623, 31623), ("*", -TOP, TOP)):
            self.check(two_result(op, one, other), (False, "range"))

    def test_quotients_and_rests(self):
        for one in (-9, -7, -1, 0, 1, 7, 9, TOP, -TOP):
            for other in (-4, -3, -2, -1, 1, 2, 3, 4, TOP, -TOP):
                quotient = two_result("/", one, other)[1]
                rest = two_result("~", one, other)[1]
                self.assertEqual(one, quotient * other + rest)
                self.assertTrue(0 <= rest < other or other < rest <= 0)
        self.check([two_result("/", one, other) for one, other in ((7, 2), (-7, 2), (7, -2), (-7, -2))],
                   [(True, 3), (True, -4), (True, -4), (True, 3)])
        self.check([two_result("~", one, other) for one, other in ((7, 2), (-7, 2), (7, -2), (-7, -2))],
                   [(True, 1), (True, 1), (True, -1), (True, -1)])

    def test_zero_as_divisor(self):
        for op in ("/", "~"):
            for one in (0, 1, -TOP):
                self.check(two_result(op, one, 0), (False, "divide"))
            for one in (None, True, "a", ("@", 0)):
                self.check(two_result(op, one, 0), (False, "kind"))
            self.check(two_result(op, 0, False), (False, "kind"))

    def test_orders(self):
        self.check([two_result("<", 1, other) for other in (0, 1, 2)], [(True, False), (True, False), (True, True)])
        self.check([two_result("<=", 1, other) for other in (0, 1, 2)], [(True, False), (True, True), (True, True)])

    def test_kinds_of_two(self):
        for op in ("+", "-", "*", "/", "~", "<", "<="):
            for value in (True, False, None, "a", ("@", 0), ["@", 0]):
                self.check(two_result(op, value, 1), (False, "kind"))
                self.check(two_result(op, 1, value), (False, "kind"))
                self.check(two_result(op, value, value), (False, "kind"))

    def test_equal(self):
        values = (0, 1, -1, True, False, None, "a", "b", "nothing", ("@", 0), ("@", 1))
        for at, one in enumerate(values):
            for place, other in enumerate(values):
                self.check(two_result("==", one, other), (True, at == place))
                self.check(two_result("!=", one, other), (True, at != place))

    def test_lists_for_references(self):
        self.check(two_result("==", ["@", 1], ("@", 1)), (True, True))
        self.check(two_result("!=", ["@", 1], ["@", 1]), (True, False))
        self.check(two_result("==", ["@", 1], ("@", 2)), (True, False))
        self.check(two_result(other=["@", 1], one=1, op="!="), (True, True))


if __name__ == "__main__":
    unittest.main()
