"""Section 6 of the document: reader.py."""

import itertools
import random
import unittest

from gathermill.errors import BadText
from gathermill.reader import tree_of
from gathermill.signs import signs_of
from gathermill.trees import is_tree, levels_of, tree_text
from tests.examples_of_document import check_file
from tests.random_trees import random_tree
from tests.viable import first_bad

A, B, C = ("name", "a"), ("name", "b"), ("name", "c")
ONE, TWO = ("constant", 1), ("constant", 2)
MARKS = "+ - * / ~ < = ( ) { } [ ] , ; <= == !=".split()
KEYS = ("let fn if else while break return show fail try catch true false nothing and or not many len").split()
VOCABULARY = [("mark", own) for own in MARKS] + [("key", own) for own in KEYS] + [
    ("name", "a"), ("name", "b"), ("name", "c"), ("number", 0), ("number", 3), ("word", "red")]


def expression_of(text):
    """The EXPRESSION that text is written by."""
    ((_, told),) = tree_of("show " + text + ";")
    return told


def lined(signs):
    """A text in which each SIGN stands on a line of its own, and nothing on the last one."""
    return "".join((f'"{sign[1]}"' if sign[0] == "word" else str(sign[1])) + "\n" for sign in signs)


class FormsTest(unittest.TestCase):
    def check(self, text, *statements):
        self.assertEqual(repr(tree_of(text)), repr(tuple(statements)), text)

    def test_examples(self):
        check_file(self, "06")

    def test_nothing(self):
        self.check("")
        self.check(" \n# a\n")
        self.assertEqual(tree_of(text="break;"), (("break",),))

    def test_plain_statements(self):
        self.check("let a = 1;", ("let", "a", ONE))
        self.check("a = 1;", ("set", "a", ONE))
        self.check("show a; fail a; return a; a;", ("show", A), ("fail", A), ("return", A), ("do", A))
        self.check("break;", ("break",))

    def test_items_are_set(self):
        self.check("a[1] = b;", ("setitem", A, ONE, B))
        self.check("a[1][2] = b;", ("setitem", ("item", A, ONE), TWO, B))
        self.check("(a)[1] = b;", ("setitem", A, ONE, B))
        self.check("(a[1])[2] = b;", ("setitem", ("item", A, ONE), TWO, B))
        self.check("(a + b)[1] = c;", ("setitem", ("two", "+", A, B), ONE, C))
        self.check("a(1)[2] = b;", ("setitem", ("call", A, (ONE,)), TWO, B))
        self.check("[1][2] = b;", ("setitem", ("array", (ONE,)), TWO, B))
        self.check("-3[1] = b;", ("setitem", ("constant", -3), ONE, B))
        self.check('"red"[1] = b;', ("setitem", ("constant", "red"), ONE, B))
        self.check("fn () { }[1] = b;", ("setitem", ("function", (), ()), ONE, B))
        self.check("a[b == c] = b == c;", ("setitem", A, ("two", "==", B, C), ("two", "==", B, C)))

    def test_blocks(self):
        self.check("while a { break; show b; }", ("while", A, (("break",), ("show", B))))
        self.check("try { } catch x { }", ("try", (), "x", ()))
        self.check("try { a; } catch x { b; }", ("try", (("do", A),), "x", (("do", B),)))

    def test_choices(self):
        self.check("if a { }", ("if", A, (), ()))
        self.check("if a { } else { }", ("if", A, (), ()))
        self.check("if a { } else { b; }", ("if", A, (), (("do", B),)))
        inner = ("if", B, (), (("do", C),))
        self.check("if a { } else if b { } else { c; }", ("if", A, (), (inner,)))
        self.check("if a { } else { if b { } else { c; } }", ("if", A, (), (inner,)))
        self.check("if a { if b { } } else { c; }", ("if", A, (("if", B, (), ()),), (("do", C),)))
        self.check("if a { } else { if b { } else { c; } c; }", ("if", A, (), (inner, ("do", C))))
        self.check("if a { } if b { }", ("if", A, (), ()), ("if", B, (), ()))
        self.check("if a { } else if b { } show c;", ("if", A, (), (("if", B, (), ()),)), ("show", C))

    def test_expressions(self):
        for text, told in (
            ("0", ("constant", 0)), ("1000000000", ("constant", 10 ** 9)), ("-1000000000", ("constant", -10 ** 9)),
            ("- 0", ("constant", 0)), ('"let"', ("constant", "let")), ("true", ("constant", True)),
            ("false", ("constant", False)), ("nothing", ("constant", None)), ("a", A), ("(a)", A), ("((a))", A),
            ("fn () { }", ("function", (), ())), ("fn (a, b) { a; }", ("function", ("a", "b"), (("do", A),))),
            ("a()", ("call", A, ())), ("a(1, b, c)", ("call", A, (ONE, B, C))), ("[]", ("array", ())),
            ("[1]", ("array", (ONE,))), ("[a, 1, []]", ("array", (A, ONE, ("array", ())))),
            ("many(a, b)", ("many", A, B)), ("len(a)", ("length", A)), ("a[b]", ("item", A, B)),
            ("a[1](2)[b]()", ("call", ("item", ("call", ("item", A, ONE), (TWO,)), B), ())),
            ("len(a)[1]", ("item", ("length", A), ONE)), ("many(a, b)(1)", ("call", ("many", A, B), (ONE,))),
            ("fn (a) { }(1)", ("call", ("function", ("a",), ()), (ONE,))), ("[a][1]", ("item", ("array", (A,)), ONE)),
            ("-a", ("one", "-", A)), ("not a", ("one", "not", A)), ("not - not a",
                                                                    ("one", "not", ("one", "-", ("one", "not", A)))),
        ):
            self.assertEqual(repr(expression_of(text)), repr(told), text)

    def test_the_mark_ahead_of_a_number(self):
        for text, told in (
            ("-3", ("constant", -3)), ("- # x\n 3", ("constant", -3)), ("-(3)", ("one", "-", ("constant", 3))),
            ("- -3", ("one", "-", ("constant", -3))), ("--3", ("one", "-", ("constant", -3))),
            ("---3", ("one", "-", ("one", "-", ("constant", -3)))), ("not -3", ("one", "not", ("constant", -3))),
            ("-3[a]", ("item", ("constant", -3), A)), ("-3(a)", ("call", ("constant", -3), (A,))),
            ("-(3)[a]", ("one", "-", ("item", ("constant", 3), A))), ("-a[1]", ("one", "-", ("item", A, ONE))),
            ("1 - 2", ("two", "-", ONE, TWO)), ("1 - -2", ("two", "-", ONE, ("constant", -2))),
            ("1-2", ("two", "-", ONE, TWO)), ("a * -2", ("two", "*", A, ("constant", -2))),
            ("-2 * a", ("two", "*", ("constant", -2), A)), ("(1) - 2", ("two", "-", ONE, TWO)),
            ("[-1]", ("array", (("constant", -1),))), ("a(-1)", ("call", A, (("constant", -1),))),
            ("a[-1]", ("item", A, ("constant", -1))), ("true - 1", ("two", "-", ("constant", True), ONE)),
        ):
            self.assertEqual(repr(expression_of(text)), repr(told), text)


class BindingTest(unittest.TestCase):
    # Operations that bind alike stand together, the loosest ones first.
    ROWS = (("or",), ("and",), ("<", "<=", "==", "!="), ("+", "-"), ("*", "/", "~"))

    def operation(self, op, left, right):
        words = {"or": "either", "and": "both"}
        return (words[op], left, right) if op in words else ("two", op, left, right)

    def test_two_operations(self):
        levels = {op: level for level, row in enumerate(self.ROWS) for op in row}
        for one, other in itertools.product(levels, levels):
            told = expression_of(f"a {one} b {other} c")
            if levels[one] >= levels[other]:
                wanted = self.operation(other, self.operation(one, A, B), C)
            else:
                wanted = self.operation(one, A, self.operation(other, B, C))
            self.assertEqual(told, wanted)
            self.assertEqual(expression_of(f"a {one} (b {other} c)"),
                             self.operation(one, A, self.operation(other, B, C)))
            self.assertEqual(expression_of(f"(a {one} b) {other} c"),
                             self.operation(other, self.operation(one, A, B), C))

    def test_ahead_binds_closer_than_between(self):
        for op in [own for row in self.ROWS for own in row]:
            for ahead in ("-", "not"):
                self.assertEqual(expression_of(f"{ahead} a {op} b"), self.operation(op, ("one", ahead, A), B))
                self.assertEqual(expression_of(f"a {op} {ahead} b"), self.operation(op, A, ("one", ahead, B)))
                self.assertEqual(expression_of(f"{ahead} (a {op} b)"), ("one", ahead, self.operation(op, A, B)))

    def test_behind_binds_closer_than_ahead(self):
        for ahead in ("-", "not"):
            self.assertEqual(expression_of(f"{ahead} a(b)[c]"), ("one", ahead, ("item", ("call", A, (B,)), C)))
            self.assertEqual(expression_of(f"({ahead} a)(b)"), ("call", ("one", ahead, A), (B,)))

    def test_all_together(self):
        self.assertEqual(
            expression_of("a or b and not c < 1 + 2 * -a[b]"),
            ("either", A, ("both", B, ("two", "<", ("one", "not", C), ("two", "+", ONE, (
                "two", "*", TWO, ("one", "-", ("item", A, B))))))))


class BadTextsTest(unittest.TestCase):
    def check_bad(self, text, line):
        with self.assertRaises(BadText) as caught:
            tree_of(text)
        self.assertEqual(caught.exception.line, line, text)

    def test_signs_come_first(self):
        self.check_bad("show ;\n!", 2)
        self.check_bad("let\nlet\n007", 3)

    def test_the_end_of_the_text(self):
        for text in ("show 1", "show", "let", "let a", "let a =", "a", "a[", "a[0]", "a[0] =", "a(", "a(1,", "[", "[1",
                     "while a", "while a {", "if a { } else", "try { }", "try { } catch", "try { } catch x",
                     "fn", "fn (", "fn (a", "fn (a,", "fn (a)", "fn () {", "fn () { }", "many", "many(", "many(1",
                     "many(1,", "many(1, 2", "len", "len(", "len(1", "-", "not", "a +", "a and", "(", "(a", "break",
                     "return", "fail", "x = fn () { show 1; }"):
            self.check_bad(text, 1)
            self.check_bad("\n" + text + "\n\n", 4)
            self.check_bad(text + " # }", 1)

    def test_what_can_not_stand_where_it_stands(self):
        for text in (
            ";", "}", ")", "]", ",", "=", "+", "<", "else", "catch", "and", "or", "let 1", "let if", "let a;", "let a ==",
            "let a = ;", "let a = b =", "show ;", "show 1 2", "show a b", "show a let", "return ;", "fail ;", "break 1",
            "break a", "a 1", "a b", "if {", "if a b", "if a ;", "if a { } else a", "if a { } else while",
            "if a { } else { } else", "if a { } else if b { } else { } else", "while {", "while a { } else",
            "try a", "try { } show", "try { } catch {", "try { } catch 1", "try { } catch len", "fn a", "fn ( 1",
            "fn ( ,", "fn ( a a", "fn ( a , )", "fn ( a , a", "fn ( a , b , a", "fn ( a ) ;", "fn ( let", "f ( , ",
            "f ( a , )", "f ( a b", "f ( a ]", "[ ,", "[ a , ]", "[ a b", "[ a )", "a [ ]", "a [ b c", "a [ b )",
            "a [ b ,", "many a", "many ( )", "many ( a )", "many ( a , )", "many ( a , b ,", "len a", "len ( )",
            "len ( a ,", "( )", "( a ]", "( a ,", "( a =", "- )", "not ;", "not =", "a + ;", "a + + ", "a * * ", "a not",
            "a or and", "1 =", "true =", "- a =", "( a ) =", "a ( ) =", "( a [ 0 ] ) =", "- a [ 0 ] =",
            "not a [ 0 ] =", "a + b [ 0 ] =", "a [ 0 ] + b =", "[ a ] =", "a = b =", "a [ 0 ] = b [ 0 ] =",
            "show a =", "show a [ 0 ] =", "f ( a =", "- 3 =", "- ( 3 ) [ 0 ] =", "a and b [ 0 ] =", "{", "show 1 ; ;",
        ):
            parts = text.split()
            self.check_bad("\n".join(parts), len(parts))
            self.check_bad("\n".join(parts) + "\nshow 1;", len(parts))

    def test_a_key_is_no_name(self):
        for key in KEYS:
            for text in ("let\n", "try { } catch\n", "fn (\n", "fn (a,\n"):
                self.check_bad(text + key + "\n;", 2)

    def test_names_of_functions(self):
        self.check_bad("fn (x,\ny,\nx) { };", 3)
        self.assertEqual(tree_of("fn (x) { fn (x, y) { }; };")[0][1][1], ("x",))

    def test_the_reader_and_all_readings_at_once_agree(self):
        for seed in range(3000):
            signs = self.random_signs(seed)
            wanted = first_bad(signs)
            if wanted is None:
                self.assertTrue(is_tree(tree_of(lined(signs))))
            else:
                self.check_bad(lined(signs), wanted + 1)

    def random_signs(self, seed):
        """The SIGNS of a random TREE's text, some of them bent."""
        chance = random.Random(seed)
        tree = random_tree(seed, chance.randint(0, 4), 3)
        signs = [sign[:2] for sign in signs_of(tree_text(tree))][:60]
        for _ in range(chance.randint(0, 2)):
            at = chance.randint(0, len(signs))
            signs[at:at + chance.randint(0, 1)] = [chance.choice(VOCABULARY)] * chance.randint(0, 1)
        return signs


class DeepTextsTest(unittest.TestCase):
    def test_brackets(self):
        for many in (40, 3000):
            self.assertEqual(expression_of("(" * many + "a" + ")" * many), A)
            tree_of("[" * many + "]" * many + ";")
            tree_of("f(" * many + "a" + ")" * many + ";")
            tree_of("a[" * many + "1" + "]" * many + ";")
            tree_of("while a {" * many + "}" * many)
            tree_of("fn () {" * many + "};" * many)
            with self.assertRaises(BadText):
                tree_of("(" * many + "a" + ")" * (many - 1) + ";")

    def test_rows(self):
        for many in (40, 60, 1500):
            self.assertEqual(levels_of(tree_of("-" * many + "a;")), many + 2)
            self.assertEqual(levels_of(tree_of("not " * many + "a;")), many + 2)
            self.assertEqual(levels_of(tree_of("a" + " - a" * many + ";")), many + 2)
            self.assertEqual(levels_of(tree_of("a" + "()" * many + ";")), many + 2)
            self.assertEqual(levels_of(tree_of("if a { } else " * many + "{ }")), many + 1)
            self.assertEqual(levels_of(tree_of("a = " + "a or " * many + "a;")), many + 2)


if __name__ == "__main__":
    unittest.main()
