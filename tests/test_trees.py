"""Section 7 of the document: trees.py."""

import unittest

from gathermill.reader import tree_of
from gathermill.trees import (
    is_expression, is_statement, is_tree, levels_of, parts_of, size_of, tree_text, within,
)
from tests.examples_of_document import check_file
from tests.random_trees import random_program, random_tree

A, B, ONE = ("name", "a"), ("name", "b"), ("constant", 1)
SHOW = ("show", A)
EXPRESSIONS = (
    ("constant", 1), ("constant", -10 ** 9), ("constant", True), ("constant", None), ("constant", "let"), A,
    ("function", (), ()), ("function", ("a", "b"), (SHOW,)), ("call", A, ()), ("call", A, (ONE, B)), ("array", ()),
    ("array", (ONE, B)), ("many", A, B), ("item", A, B), ("length", A), ("one", "-", A), ("one", "not", A),
    *[("two", op, A, B) for op in ("+", "-", "*", "/", "~", "<", "<=", "==", "!=")], ("both", A, B), ("either", A, B),
)
STATEMENTS = (
    ("let", "a", ONE), ("set", "a", ONE), ("setitem", A, B, ONE), ("show", A), ("fail", A), ("return", A), ("do", A),
    ("if", A, (), ()), ("if", A, (SHOW,), (SHOW, SHOW)), ("while", A, ()), ("while", A, (SHOW,)), ("break",),
    ("try", (), "a", ()), ("try", (SHOW,), "a", (SHOW,)),
)
NEVER_FIELDS = (
    (), [], None, True, 0, 7, "", "A", "let", "abcdefghijklm", ("name",), ("name", "let"), ("name", "a", "a"),
    ["name", "a"], ("constant", 10 ** 10), ("constant", "Red"), ("constant", ("a",)), ("show", ("name", "A")), "@",
    (SHOW,), ("a",), ("a", "b"), (A,), (A, SHOW), [SHOW], [A], (None,), (1,), (("break", 1),), ("break",), SHOW, A,
)


def most_open(text):
    """How many of the marks ( [ { are open at most."""
    many = most = 0
    for own in text:
        many += (own in "([{") - (own in ")]}")
        most = max(most, many)
    return most


def fits_field(word, place, own):
    """Whether own may stand at this place of a part of this word: the document's table, field by field."""
    names = {"name": "x", "function": "ns", "call": "e*", "array": "*", "many": "ee", "item": "ee", "length": "e",
             "one": "1e", "two": "2ee", "both": "ee", "either": "ee", "let": "xe", "set": "xe", "setitem": "eee",
             "show": "e", "fail": "e", "return": "e", "do": "e", "if": "ess", "while": "es", "try": "sxs",
             "constant": "c"}
    kind = names[word][place - 1]
    if kind == "c":
        return own is None or isinstance(own, (bool, int)) or own == "let"
    if kind == "x":
        return own in ("a", "b") and isinstance(own, str)
    if kind == "e":
        return own in EXPRESSIONS and isinstance(own, tuple)
    if kind == "1":
        return isinstance(own, str) and own in ("-", "not")
    if kind == "2":
        return isinstance(own, str) and own in ("+", "-", "*", "/", "~", "<", "<=", "==", "!=")
    if not isinstance(own, tuple):
        return False
    told = {"s": STATEMENTS, "*": EXPRESSIONS, "n": ("a", "b", "name")}[kind]
    return all(inner in told for inner in own) and (kind != "n" or len(set(own)) == len(own))


class IsTreeTest(unittest.TestCase):
    def test_examples(self):
        check_file(self, "07")

    def test_forms(self):
        for thing in EXPRESSIONS:
            self.assertIs(is_expression(thing), True, thing)
            self.assertIs(is_statement(thing), False, thing)
            self.assertIs(is_tree((("do", thing),)), True)
        for thing in STATEMENTS:
            self.assertIs(is_statement(thing), True, thing)
            self.assertIs(is_expression(thing), False, thing)
            self.assertIs(is_tree((thing, thing)), True)
            self.assertIs(is_expression(("function", (), (thing,))), True)
        self.assertIs(is_tree(STATEMENTS), True)
        self.assertIs(is_tree(()), True)
        self.assertIs(is_tree(thing=()) and is_statement(thing=SHOW) and is_expression(thing=A), True)

    def test_each_field_bent(self):
        for tells, things in ((is_expression, EXPRESSIONS), (is_statement, STATEMENTS)):
            for thing in things:
                for place in range(1, len(thing)):
                    for own in NEVER_FIELDS:
                        bent = thing[:place] + (own,) + thing[place + 1:]
                        self.assertIs(tells(bent), fits_field(thing[0], place, own), bent)

    def test_too_few_and_too_many_fields(self):
        for tells, things in ((is_expression, EXPRESSIONS), (is_statement, STATEMENTS)):
            for thing in things:
                for bent in (thing[:-1], thing + (A,), thing + ((),), list(thing), (thing,), (thing[0].upper(),) +
                             thing[1:], (list(thing[:1]),) + thing[1:], (None,) + thing[1:]):
                    self.assertIs(tells(bent), False, bent)

    def test_wrong_things(self):
        deep = A
        for _ in range(95):
            deep = ("one", "-", deep)
        lists = []
        for _ in range(99):
            lists = [lists]
        self.assertIs(is_expression(deep), True)
        self.assertIs(is_expression(deep[:2] + (["name", "a"],)), False)
        for thing in (None, True, 0, 10 ** 5000, "", "a", "break", "show", [], [SHOW], lists, (lists,), ("show", lists)):
            for tells in (is_expression, is_statement):
                self.assertIs(tells(thing), False)
            self.assertIs(is_tree(thing), False)
        for thing in (SHOW, A, (A,), (SHOW, A), ((SHOW,),), (None,), ([],), ((),), "abc", ("break",)):
            self.assertIs(is_tree(thing), False)

    def test_names_of_functions(self):
        for names in (["a"], "a", ("a", "a"), ("a", "b", "a"), ("let",), ("A",), (1,), (("a",),), ("abcdefghijklm",)):
            self.assertIs(is_expression(("function", names, ())), False)

    def test_many(self):
        self.assertIs(is_tree((SHOW,) * 20000), True)
        self.assertIs(is_tree((SHOW,) * 20000 + (A,)), False)


class PartsTest(unittest.TestCase):
    def test_within(self):
        self.assertEqual([within(own) for own in (ONE, A, ("break",), ("array", ()), ("function", ("a",), ()))], [()] * 5)
        self.assertEqual(within(("function", ("a",), (SHOW, ("break",)))), (SHOW, ("break",)))
        self.assertEqual(within(("call", A, (B, ONE))), (A, B, ONE))
        self.assertEqual(within(("array", (B, ONE))), (B, ONE))
        self.assertEqual(within(("setitem", A, B, ONE)), (A, B, ONE))
        self.assertEqual(within(("two", "-", A, B)), (A, B))
        self.assertEqual(within(("one", "-", A)), (A,))
        self.assertEqual(within(("let", "x", A)), (A,))
        self.assertEqual(within(("if", A, (SHOW, ("break",)), (("do", B),))), (A, SHOW, ("break",), ("do", B)))
        self.assertEqual(within(("while", A, (SHOW,))), (A, SHOW))
        self.assertEqual(within(("try", (SHOW,), "x", (("do", B),))), (SHOW, ("do", B)))

    def test_lists(self):
        part = ["if", ["name", "a"], [["show", ["call", ["name", "a"], [["constant", 1]]]]], []]
        self.assertEqual(repr(within(part)), repr((A, ("show", ("call", A, (ONE,))))))
        self.assertEqual(repr(parts_of([part])[2:]), repr((("show", ("call", A, (ONE,))), ("call", A, (ONE,)), A, ONE)))
        self.assertEqual((size_of([part]), levels_of([part])), (6, 4))
        self.assertEqual(tree_text([part]), tree_text((("if", A, (("show", ("call", A, (ONE,))),), ()),)))
        self.assertEqual(part, ["if", ["name", "a"], [["show", ["call", ["name", "a"], [["constant", 1]]]]], []])

    def test_by_name(self):
        self.assertEqual((within(part=SHOW), parts_of(tree=(SHOW,)), size_of(tree=(SHOW,)), levels_of(tree=(SHOW,))),
                         ((A,), (SHOW, A), 2, 2))
        self.assertEqual(tree_of(tree_text(tree=(SHOW,))), (SHOW,))

    def test_nothing(self):
        self.assertEqual((parts_of(()), size_of(()), levels_of(()), parts_of([])), ((), 0, 0, ()))

    def test_levels(self):
        self.assertEqual(levels_of((("break",),)), 1)
        self.assertEqual(levels_of((("while", A, ()),)), 2)
        self.assertEqual(levels_of((("break",), ("do", ("function", (), (("break",), SHOW))), ("break",))), 4)

    def test_parts_of_random_trees(self):
        for seed in range(200):
            tree = random_tree(seed)
            parts = parts_of(tree)
            self.assertEqual(size_of(tree), len(parts))
            self.assertEqual(size_of(tree) == 0, tree == ())
            for part in parts:
                self.assertIs(is_statement(part) or is_expression(part), True)
            self.assertEqual(parts, self.recursive(tree))
            self.assertEqual(levels_of(tree), self.depth(tree))

    def recursive(self, parts):
        return sum([(part, *self.recursive(within(part))) for part in parts], ())

    def depth(self, parts):
        return max([1 + self.depth(within(part)) for part in parts], default=0)


class TextTest(unittest.TestCase):
    def check(self, tree):
        text = tree_text(tree)
        self.assertEqual(repr(tree_of(text)), repr(tree), text)
        self.assertLessEqual(most_open(text), 2 * levels_of(tree))

    def test_forms(self):
        for part in EXPRESSIONS:
            self.check((("do", part),))
            self.check((("show", part), ("do", ("item", part, part)), ("do", ("call", part, (part, part)))))
            self.check((("setitem", part, part, part), ("while", part, ()), ("if", part, (("do", part),), (SHOW,))))
        for part in STATEMENTS:
            self.check((part,))
            self.check((("while", A, (part, part)), ("if", A, (), (part,)), ("try", (part,), "x", (part,))))

    def test_operations_in_operations(self):
        several = [own for own in EXPRESSIONS if own[0] in ("one", "two", "both", "either", "item", "call", "constant")]
        several.append(("constant", 0))
        for one in several:
            for op in ("-", "not"):
                self.check((("do", ("one", op, one)), ("do", ("one", op, ("one", op, one)))))
                self.check((("do", ("one", op, ("item", one, one))), ("do", ("one", op, ("call", one, ())))))
                self.check((("do", ("item", ("one", op, one), one)), ("setitem", ("one", op, one), one, one)))
            for other in several:
                for op in ("+", "-", "*", "<", "=="):
                    self.check((("do", ("two", op, one, other)),))
                self.check((("do", ("both", one, other)), ("do", ("either", one, other))))
                self.check((("do", ("one", "-", ("two", "*", one, other))),))

    def test_random_trees(self):
        for seed in range(1500):
            self.check(random_tree(seed, seed % 6))
        for seed in range(100):
            self.check(random_program(seed, 3))

    def test_marks_of_deep_trees(self):
        forms = (
            lambda own: ("one", "-", own), lambda own: ("item", own, A), lambda own: ("item", A, own),
            lambda own: ("call", own, ()), lambda own: ("call", A, (own,)), lambda own: ("array", (own,)),
            lambda own: ("many", own, own if own == A else A), lambda own: ("length", own),
            lambda own: ("two", "-", A, own), lambda own: ("two", "-", own, A), lambda own: ("both", A, own),
            lambda own: ("call", ("one", "not", own), ()), lambda own: ("function", (), (("do", own),)),
            lambda own: ("call", ("function", ("a",), (("if", own, (), ()),)), (A,)),
            lambda own: ("length", ("either", A, ("two", "*", A, own))),
        )
        for form in forms:
            part = A
            for _ in range(20):
                part = form(part)
                self.check((("do", part),))
                self.check((("setitem", part, part, part),))

    def test_very_deep_trees(self):
        part = A
        for _ in range(3000):
            part = ("two", "-", A, part)
        text = tree_text((("do", part),))
        self.assertEqual(tree_text(tree_of(text)), text)
        self.assertEqual((size_of((("do", part),)), levels_of((("do", part),))), (6002, 3002))


if __name__ == "__main__":
    unittest.main()
