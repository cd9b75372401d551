"""Section 8 of the document: names.py."""

import unittest

from gathermill.errors import CanNot, Misplaced, NoName, Twice, Unfit
from gathermill.names import alike, captured, plan_of, renamed, uses, variables
from gathermill.reader import tree_of
from gathermill.trees import is_tree
from tests.examples_of_document import check_file, told_error
from tests.random_trees import random_program, random_tree
from tests.reference import Naming

ERRORS = (NoName, Twice, Misplaced)


def lists_of(value):
    """The value with lists for tuples."""
    return [lists_of(own) for own in value] if isinstance(value, tuple) else value


def told(function, *arguments):
    """What a function returns, or the error that it raises."""
    try:
        return function(*arguments)
    except (*ERRORS, CanNot, Unfit) as raised:
        return told_error(raised)


class ErrorsOfNamesTest(unittest.TestCase):
    def check_bad(self, text, error, word):
        tree = tree_of(text)
        for function in (plan_of, variables, captured, uses):
            self.assertEqual(told(function, tree), told_error(error(word)), text)
            self.assertEqual(told(function, lists_of(tree)), told_error(error(word)), text)
        self.assertEqual(told(alike, tree, ()), told_error(error(word)), text)
        self.assertEqual(told(alike, (), tree), told_error(error(word)), text)
        self.assertEqual(told(renamed, tree, ("a",) * 99), told_error(error(word)), text)

    def test_examples(self):
        check_file(self, "08")

    def test_no_name(self):
        for text in (
            "show x;", "x = 1;", "let x = x;", "let x = -x;", "let x = [fn () { return x; }];", "show x; let x = 1;",
            "if true { let x = 1; } show x;", "if true { let x = 1; } else { show x; }",
            "while x { let x = true; }", "while true { let x = 1; } x = 2;", "try { let x = 1; } catch a { show x; }",
            "try { show x; } catch x { }", "try { } catch x { } show x;", "fn (x) { }; show x;",
            "let f = fn () { let x = 1; }; show x;", "let f = fn () { return x; }; let x = 1;",
            "let f = fn (f) { }; let g = fn () { show x; };", "x = x;", "x();", "show [1, len(x)];",
            "let x = x(fn () { });",
        ):
            self.check_bad(text, NoName, "x")

    def test_twice(self):
        for text in (
            "let x = 1; let x = 2;", "let x = 1; show 1; let x = fn () { };", "fn (x) { let x = 1; };",
            "fn (a, x) { let x = 1; };", "try { } catch x { let x = 1; }",
            "while true { let x = 1; let x = 2; }", "if true { } else { let x = 1; let x = 2; }",
            "try { let x = 1; let x = 1; } catch a { }", "let f = fn (x) { show 1; let x = x; };",
        ):
            self.check_bad(text, Twice, "x")

    def test_what_is_not_twice(self):
        for text in (
            "let x = 1; if true { let x = 2; }", "let x = 1; fn (x) { };", "let x = 1; fn () { let x = x; };",
            "fn (x) { if true { let x = x; } };", "let x = 1; try { let x = 1; } catch x { if x { let x = x; } }",
            "let f = fn (f) { };", "let x = 1; while true { let x = x; }", "fn () { fn (x) { }; let x = 1; };",
            "try { } catch x { fn (x) { }; }", "if true { let x = 1; } else { let x = 1; } let x = 1;",
            "let f = fn () { let f = 1; };",
        ):
            self.assertIs(alike(tree_of(text), tree_of(text)), True, text)

    def test_misplaced(self):
        for text in ("break;", "if true { break; }", "if true { } else { break; }", "try { break; } catch x { }", "try { } catch x { break; }",
                     "while true { fn () { break; }; }", "while fn () { break; } { }", "while true { } break;",
                     "fn () { while true { fn () { break; }; } };", "while true { let f = fn () { break; }; }"):
            self.check_bad(text, Misplaced, "break")
        for text in ("return 1;", "while true { return 1; }", "fn () { }; return 1;", "try { return 1; } catch x { }",
                     "try { } catch x { return 1; }", "if true { return 1; }"):
            self.check_bad(text, Misplaced, "return")

    def test_what_is_not_misplaced(self):
        for text in ("while true { break; }", "while true { if true { try { break; } catch x { break; } } }",
                     "fn () { while true { break; } };", "while true { fn () { while true { break; } }; break; }",
                     "fn () { return 1; };", "fn () { while true { try { return 1; } catch x { return x; } } };",
                     "fn () { fn () { return 1; }; return 2; };"):
            self.assertIs(alike(tree_of(text), tree_of(text)), True, text)

    def test_the_first_one_in_text_order(self):
        for text, error, word in (
            ("show x; break;", NoName, "x"), ("break; show x;", Misplaced, "break"),
            ("return x;", Misplaced, "return"), ("x = y;", NoName, "x"), ("let x = 1; let x = y;", Twice, "x"),
            ("let x = y; let x = 1;", NoName, "y"), ("show [x, y];", NoName, "x"),
            ("show a[b];", NoName, "a"), ("let x = 1; x[y] = z;", NoName, "y"),
            ("let x = 1; let x = fn () { break; };", Twice, "x"), ("let x = 1; show x(fn () { return y; }); break;",
                                                                    NoName, "y"),
            ("try { break; } catch x { let x = y; }", Misplaced, "break"),
            ("try { } catch x { let x = y; }", Twice, "x"), ("fn (x) { let x = y; };", Twice, "x"),
            ("if a { break; }", NoName, "a"), ("while a { b; }", NoName, "a"), ("if true { b; } else { c; }", NoName, "b"),
            ("let x = fn () { let x = 1; let x = y; };", Twice, "x"), ("show a < b or c;", NoName, "a"),
            ("fn () { break; }; return 1;", Misplaced, "break"), ("return 1; break;", Misplaced, "return"),
        ):
            self.check_bad(text, error, word)


class PlansTest(unittest.TestCase):
    def test_nothing(self):
        self.assertEqual(plan_of(()), ((0, 0, 0, (), ()),))
        self.assertEqual((variables(()), captured(()), uses(())), ((), (), ()))
        self.assertEqual((plan_of([]), renamed([], [])), (((0, 0, 0, (), ()),), ()))
        self.assertEqual((variables(tree=()), captured(tree=()), uses(tree=()), plan_of(tree=())[0][0]), ((), (), (), 0))

    def test_numbers_in_text_order(self):
        tree = tree_of("let a = fn (b) { let c = b; try { let d = c; } catch e { let f = e; } }; let g = a;")
        self.assertEqual(variables(tree), (("a", 0), ("b", 1), ("c", 1), ("d", 1), ("e", 1), ("f", 1), ("g", 0)))
        self.assertEqual(uses(tree), (1, 2, 4, 0))
        self.assertEqual(captured(tree), ())

    def test_a_function_that_means_itself(self):
        tree = tree_of("let f = fn (n) { f = n; return f; };")
        self.assertEqual((variables(tree), captured(tree), uses(tree)), ((("f", 0), ("n", 1)), (0,), (0, 1, 0)))
        self.assertEqual(plan_of(tree), (
            (0, 1, 0, (), (("let", "box", 0, ("function", 1, (("slot", 0),))),)),
            (1, 1, 1, (), (("set", "upfill", 0, ("load", 0)), ("return", ("up", 0)))),
        ))

    def test_the_outer_variable_in_an_expression_that_is_no_function(self):
        tree = tree_of("let f = 1; if true { let f = [fn () { return f; }, f]; }")
        self.assertEqual(uses(tree), (0, 0))
        self.assertEqual(captured(tree), (0,))

    def test_the_last_variable_of_a_name(self):
        self.assertEqual(uses(tree_of("let f = 1; if true { let f = fn (f) { return f; }; show f; } show f;")), (2, 1, 0))
        self.assertEqual(uses(tree_of("let x = 1; try { show x; } catch x { x = x; } show x;")), (0, 1, 1, 0))
        self.assertEqual(uses(tree_of("let x = 1; while x { let x = x; show x; } show x;")), (0, 0, 1, 0))
        self.assertEqual(uses(tree_of("let x = 1; if x { let x = 1; show x; } else { show x; let x = x; show x; }")),
                         (0, 1, 0, 0, 2))

    def test_cells_over_several_codes(self):
        tree = tree_of("let a = 1; let b = 2; fn (c) { fn (d) { fn () { return [b, c, d, a]; }; a = d; }; b = c; };")
        self.assertEqual(variables(tree), (("a", 0), ("b", 0), ("c", 1), ("d", 2)))
        self.assertEqual((captured(tree), uses(tree)), ((0, 1, 2, 3), (1, 2, 3, 0, 0, 3, 1, 2)))
        one = ("constant", 1), ("constant", 2)
        self.assertEqual(plan_of(tree), (
            (0, 2, 0, (), (("let", "box", 0, one[0]), ("let", "box", 1, one[1]), (
                "do", ("function", 1, (("slot", 1), ("slot", 0)))))),
            (1, 1, 2, (0,), (("do", ("function", 2, (("up", 0), ("slot", 0), ("up", 1)))), (
                "set", "upfill", 0, ("open", 0)))),
            (1, 1, 3, (0,), (("do", ("function", 3, (("up", 0), ("up", 1), ("slot", 0), ("up", 2)))), (
                "set", "upfill", 2, ("open", 0)))),
            (0, 0, 4, (), (("return", ("array", (("up", 0), ("up", 1), ("up", 2), ("up", 3)))),)),
        ))

    def test_all_ways_to_come_to_a_variable(self):
        tree = tree_of("let a = 1; let b = 2; a = b; b = a; try { } catch e { e = a; fn () { e = e; a = 1; }; }")
        self.assertEqual(plan_of(tree)[0][4], (
            ("let", "box", 0, ("constant", 1)), ("let", "store", 1, ("constant", 2)), ("set", "fill", 0, ("load", 1)),
            ("set", "store", 1, ("open", 0)), ("try", (), "box", 2, (
                ("set", "fill", 2, ("open", 0)), ("do", ("function", 1, (("slot", 2), ("slot", 0)))))),
        ))
        self.assertEqual(plan_of(tree)[1], (0, 0, 2, (), (("set", "upfill", 0, ("up", 0)), (
            "set", "upfill", 1, ("constant", 1)))))

    def test_boxed(self):
        tree = tree_of("fn (a, b, c, d) { let e = 1; fn () { return d + b + e; }; };")
        self.assertEqual(plan_of(tree)[1][:4], (4, 5, 0, (1, 3)))
        self.assertEqual(plan_of(tree)[2][:4], (0, 0, 3, ()))

    def test_a_set_comes_ahead_of_what_is_in_it(self):
        tree = tree_of("let a = 1; let b = 2; fn () { a = b; }; fn () { b = fn () { return a; }; };")
        self.assertEqual(plan_of(tree)[0][4][2:], (("do", ("function", 1, (("slot", 0), ("slot", 1)))), (
            "do", ("function", 2, (("slot", 1), ("slot", 0))))))

    def test_random_trees(self):
        for seed in range(1200):
            tree = random_tree(seed, seed % 5, 4) if seed % 3 == 0 else random_program(seed, seed % 4 + 1)
            naming = told(Naming, tree)
            if isinstance(naming, tuple):
                for function in (plan_of, variables, captured, uses):
                    self.assertEqual(told(function, tree), naming)
                continue
            self.assertEqual(repr(plan_of(tree)), repr(naming.plan()))
            self.assertEqual(variables(tree), tuple(naming.variables))
            self.assertEqual(uses(tree), tuple(variable for variable, _ in naming.uses))
            self.assertEqual(captured(tree), tuple(naming.captured))

    def test_lists(self):
        for seed in range(60):
            tree = random_program(seed, 3)
            listed = lists_of(tree)
            for function in (plan_of, variables, captured, uses):
                self.assertEqual(repr(told(function, listed)), repr(told(function, tree)))
            self.assertEqual(repr(listed), repr(lists_of(tree)))


class RenamedTest(unittest.TestCase):
    def test_alike(self):
        one = tree_of("let a = 1; let f = fn (b) { return a + b; };")
        for text, wanted in (
            ("let b = 1; let g = fn (a) { return b + a; };", True), ("let a = 1; let b = 1;", False),
            ("let f = 1; let a = fn (b) { return f + b; };", True), ("let a = 1; let f = fn (b) { return b + a; };", False),
            ("let a = 1; let f = fn (b) { return b + b; };", False),
            ("let a = 2; let f = fn (b) { return a + b; };", False),
            ("let a = true; let f = fn (b) { return a + b; };", False),
        ):
            self.assertIs(alike(one, tree_of(text)), wanted, text)
            self.assertIs(alike(other=lists_of(one), tree=tree_of(text)), wanted, text)

    def test_truths_are_no_numbers(self):
        for one, other in ((1, True), (0, False)):
            self.assertIs(alike((("show", ("constant", one)),), (("show", ("constant", other)),)), False)
            self.assertIs(alike((("show", ("constant", one)),), (("show", ("constant", one)),)), True)

    def test_errors_of_the_first_tree_come_first(self):
        bad, worse = tree_of("show x;"), tree_of("break;")
        self.assertEqual(told(alike, bad, worse), told_error(NoName("x")))
        self.assertEqual(told(alike, worse, bad), told_error(Misplaced("break")))

    def test_renamed(self):
        tree = tree_of("let a = 1; let f = fn (b, c) { a = b; let d = c; }; try { } catch e { show e; a = f; }")
        told_tree = renamed(tree, ("p", "q", "r", "s", "t", "u"))
        self.assertEqual(told_tree, tree_of(
            "let p = 1; let q = fn (r, s) { p = r; let t = s; }; try { } catch u { show u; p = q; }"))
        self.assertEqual(repr(renamed(tree=lists_of(tree), names=["p", "q", "r", "s", "t", "u"])), repr(told_tree))
        self.assertEqual(renamed(tree, [name for name, _ in variables(tree)]), tree)

    def test_names_that_are_not_as_many(self):
        tree = tree_of("let a = 1; show a;")
        for names in ((), ("a", "b"), ["a", "b", "c"]):
            self.assertEqual(told(renamed, tree, names), told_error(Unfit()))
        self.assertEqual(told(renamed, tree_of("show a;"), ()), told_error(NoName("a")))
        self.assertEqual(told(renamed, tree_of("let a = 1; let a = 1;"), ()), told_error(Twice("a")))

    def test_names_that_can_not_be(self):
        for text, names in (
            ("fn (a, b) { };", ("x", "x")), ("let a = 1; let b = 2;", ("x", "x")), ("fn (a) { let b = 1; };", ("x", "x")),
            ("try { } catch a { let b = 1; }", ("x", "x")), ("let a = 1; if a { let b = a; show a; }", ("x", "x")),
            ("let a = 1; fn (b) { return a; };", ("x", "x")), ("let a = 1; try { } catch b { show a; }", ("x", "x")),
            ("let a = 1; let f = fn () { let b = 1; return f; };", ("a", "f", "f")),
            ("let a = 1; if a { let f = fn () { return a; }; }", ("x", "x")),
        ):
            self.assertEqual(told(renamed, tree_of(text), names), told_error(CanNot()), text)

    def test_like_names_that_can_be(self):
        for text, names in (
            ("let a = 1; fn (b) { return b; };", ("x", "x")), ("let a = 1; if a { let b = a; show b; }", ("x", "x")),
            ("if true { let a = 1; } else { let b = 1; }", ("x", "x")), ("let f = fn (g) { return g; };", ("f", "f")),
        ):
            tree = tree_of(text)
            self.assertIs(alike(tree, renamed(tree, names)), True)
            self.assertEqual(tuple(name for name, _ in variables(renamed(tree, names))), names)

    def test_random_trees(self):
        for seed in range(300):
            tree = random_program(seed, 3)
            many = len(variables(tree))
            fresh = tuple("x" + "abcdefghij"[own // 100] + "abcdefghij"[own // 10 % 10] + "abcdefghij"[own % 10]
                          for own in range(many))
            other = renamed(tree, fresh)
            self.assertIs(is_tree(other) and alike(tree, other), True)
            self.assertEqual(tuple(name for name, _ in variables(other)), fresh)
            self.assertEqual(repr(renamed(other, [name for name, _ in variables(tree)])), repr(tree))


if __name__ == "__main__":
    unittest.main()
