"""Section 9 of the document: meaning.py."""

import unittest

from gathermill.errors import Misplaced, NoName, Twice
from gathermill.meaning import meaning_of, steps_of
from gathermill.reader import tree_of
from tests.examples_of_document import check_file, told_error
from tests.random_trees import random_program
from tests.reference import Meaning
from tests.test_names import lists_of

MOST = 20000


def outcome(text, most=MOST):
    """The OUTCOME of a text as one string: what is shown, then how it ends."""
    shown, end = meaning_of(tree_of(text), most)
    return " ".join(shown) + " | " + " ".join(end)


class RunsTest(unittest.TestCase):
    def check(self, text, wanted):
        self.assertEqual(outcome(text), wanted, text)

    def test_examples(self):
        check_file(self, "09")

    def test_shown(self):
        self.check("", " | done")
        self.check('show 1; show -2; show true; show false; show nothing; show "red";',
                   "1 -2 true false nothing red | done")
        self.check("show []; show [1, [2]]; show fn () { }; show fn (a, b) { };", "array 0 array 2 function 0 function 2 | done")

    def test_variables(self):
        self.check("let a = 1; let b = a; a = 2; show a; show b;", "2 1 | done")
        self.check("let a = 1; if true { let a = a + 1; show a; a = 5; } show a;", "2 1 | done")
        self.check("let a = 1; let f = fn () { return a; }; a = 2; show f(); if true { let a = 3; show f(); }", "2 2 | done")

    def test_each_doing_makes_new_variables(self):
        self.check("let fs = [0, 0]; let i = 0; while i < 2 { let x = i; fs[i] = fn () { x = x + 10; return x; }; "
                   "i = i + 1; } show fs[0](); show fs[0](); show fs[1]();", "10 20 11 | done")
        self.check("let make = fn (n) { return fn () { n = n + 1; return n; }; }; let a = make(0); let b = make(5); "
                   "show a(); show a(); show b(); show a();", "1 2 6 3 | done")
        self.check("let fs = [0, 0]; let i = 0; while i < 2 { try { fail i; } catch e { fs[i] = fn () { return e; }; } "
                   "i = i + 1; } show fs[0](); show fs[1]();", "0 1 | done")

    def test_functions(self):
        self.check("let f = fn (a, b) { return a - b; }; show f(5, 3); show fn () { }();", "2 nothing | done")
        self.check("let f = fn (n) { if n < 2 { return 1; } return n * f(n - 1); }; show f(10);", "3628800 | done")
        self.check("let f = fn () { return f; }; let g = f; f = 1; show g();", "1 | done")
        self.check("let f = fn () { show 1; return 2; show 3; }; show f();", "1 2 | done")

    def test_arrays(self):
        self.check("let a = [1, 2]; let b = a; b[0] = 5; show a[0]; show len(a); show [1][0];", "5 2 1 | done")
        self.check("let a = many(3, 7); a[1] = 8; show a[0]; show a[1]; show len(a); show many(0, 1); show len(many(1000, 1));",
                   "7 8 3 array 0 1000 | done")
        self.check("let a = many(2, [0]); a[0][0] = 4; show a[1][0]; show a[0] == a[1];", "4 true | done")
        self.check("let a = [0]; a[0] = a; show a[0][0][0] == a;", "true | done")

    def test_equal(self):
        self.check("let a = []; let f = fn () { }; show a == a; show a == []; show f == f; show f == fn () { }; "
                   "show 1 == true; show nothing == nothing; show \"a\" != \"b\"; show [] != [];",
                   "true false true false false true true true | done")
        self.check("let f = fn () { return fn () { }; }; show f() == f(); let g = f(); show g == g;", "false true | done")

    def test_truths(self):
        self.check("show true and false; show false and 1; show true or 1; show false or true; show true and true;",
                   "false false true true true | done")
        self.check("let f = fn () { show 1; return true; }; show false and f(); show true or f(); show true and f(); "
                   "show false or f();", "false true 1 true 1 true | done")

    def test_choices_and_loops(self):
        self.check("if true { show 1; } else { show 2; } if false { show 3; } else { show 4; } if false { show 5; }",
                   "1 4 | done")
        self.check("let i = 0; while i < 3 { i = i + 1; show i; }", "1 2 3 | done")
        self.check("while true { while true { show 1; break; } show 2; break; } show 3;", "1 2 3 | done")
        self.check("let f = fn () { while true { while true { return 7; } } }; show f();", "7 | done")


class LacksTest(unittest.TestCase):
    def check_lack(self, text, lack):
        """The EXPRESSION lacks so: alone, and caught."""
        begin = 'let a = [1, 2]; let f = fn (x) { return x; }; let w = "red"; '
        self.assertEqual(outcome(begin + text + ";"), " | failed " + lack, text)
        self.assertEqual(outcome(begin + "try { " + text + "; show 1; } catch e { show e; }"), lack + " | done", text)

    def test_calls(self):
        for text in ("1()", "w(1)", "a()", "nothing(1, 2)", "true()"):
            self.check_lack(text, "kind")
        for text in ("f()", "f(1, 2)", "fn () { }(1)"):
            self.check_lack(text, "count")

    def test_many(self):
        for text in ("many(w, 1)", "many(true, 1)", "many(nothing, 1)", "many(a, 1)"):
            self.check_lack(text, "kind")
        for text in ("many(-1, 1)", "many(1001, 1)", "many(1000000000, 1)"):
            self.check_lack(text, "range")

    def test_items(self):
        for text in ("1[0]", "f[0]", "w[0]", "nothing[9]", "a[true]", "a[w]", "a[a]", "1[true]", "a[nothing] = 1",
                     "f[0] = 1", "1[0] = 1", "w[9] = 1"):
            self.check_lack(text, "kind")
        for text in ("a[2]", "a[-1]", "[][0]", "a[1000000000]", "a[2] = 1", "a[-1] = 1", "[][0] = 1"):
            self.check_lack(text, "place")

    def test_lengths_and_operations(self):
        for text in ("len(1)", "len(f)", "len(w)", "len(nothing)", "-true", "-w", "not 1", "not a", "1 + true", "w + w",
                     "a - 1", "1 * nothing", "true / 0", "w ~ 0", "true < 1", "a <= a"):
            self.check_lack(text, "kind")
        for text in ("1 / 0", "0 ~ 0"):
            self.check_lack(text, "divide")
        for text in ("1000000000 + 1", "-1000000000 - 1", "100000 * 100000"):
            self.check_lack(text, "range")

    def test_truths(self):
        for text in ("1 and true", "nothing or true", "true and 1", "false or w", "a and a", "if 1 { } 1",
                     "while w { } 1", "if true and 0 { } 1"):
            self.check_lack(text, "kind")

    def test_a_while_that_lacks_later(self):
        self.assertEqual(outcome("let a = true; while a { show 1; a = 5; }"), "1 | failed kind")

    def test_the_parts_come_first(self):
        begin = "let s = fn (x) { show x; return x; }; "
        for text, wanted in (
            ("1(s(1), s(2));", "1 2 | failed kind"), ("s(1)(s(2));", "1 2 | failed kind"),
            ("s(s(1), s(2));", "1 2 | failed count"), ("many(s(true), s(2));", "true 2 | failed kind"),
            ("many(s(-1), s(2));", "-1 2 | failed range"), ("s(1)[s(2)];", "1 2 | failed kind"),
            ("s([])[s(2)];", "array 0 2 | failed place"), ("s(1)[s(2)] = s(3);", "1 2 3 | failed kind"),
            ("s([1])[s(true)] = s(3);", "array 1 true 3 | failed kind"), ("s(true) + s(1);", "true 1 | failed kind"),
            ("s(1) / s(0);", "1 0 | failed divide"), ("[s(1), s(2), s(1 / 0), s(3)];", "1 2 | failed divide"),
            ("fail s(1);", "1 | failed 1"), ("s(1) and s(true);", "1 | failed kind"),
            ("s(true) and s(1);", "true 1 | failed kind"), ("let x = s(s(4)); show x;", "4 4 4 | done"),
            ("let x = 1; x = s(2) + x; show x;", "2 3 | done"), ("let x = 1; fn () { x = 5; }() == 1; show x + [x, s(2)][1];",
                                                                 "2 7 | done"),
        ):
            self.assertEqual(outcome(begin + text), wanted, text)


class FailsTest(unittest.TestCase):
    def check(self, text, wanted):
        self.assertEqual(outcome(text), wanted, text)

    def test_ends(self):
        self.check("show 1; fail 2; show 3;", "1 | failed 2")
        self.check("fail [1];", " | failed array 1")
        self.check("fail fn (a, b, c) { };", " | failed function 3")
        self.check('fail "deep";', " | failed deep")
        self.check("fail nothing;", " | failed nothing")

    def test_caught(self):
        self.check("try { show 1; fail 2; show 3; } catch e { show e; } show 4;", "1 2 4 | done")
        self.check("let a = [1]; try { fail a; } catch e { show e == a; }", "true | done")
        self.check("try { show 1; } catch e { show 2; } show 3;", "1 3 | done")
        self.check("try { fail 1; } catch e { fail e + 1; } show 3;", " | failed 2")
        self.check("try { try { fail 1; } catch e { fail e + 1; } } catch e { show e; }", "2 | done")
        self.check("try { try { show 1; } catch e { show 2; } fail 3; } catch e { show e; }", "1 3 | done")

    def test_caught_around_calls(self):
        self.check("let f = fn () { show 1; fail 2; }; try { show [f(), 3]; } catch e { show e; }", "1 2 | done")
        self.check("let f = fn (n) { if n == 0 { fail 9; } f(n - 1); show n; }; try { f(5); } catch e { show e; } show 1;",
                   "9 1 | done")
        self.check("let f = fn () { try { fail 1; } catch e { return e; } }; show [f(), 2][0] + f();", "2 | done")
        self.check("let f = fn (g) { try { return g(); } catch e { return e; } }; show 1 + f(fn () { fail 5; });", "6 | done")
        self.check("let f = fn () { return 1 + 1 / 0; }; while true { try { f(); } catch e { show e; break; } }",
                   "divide | done")

    def test_a_break_out_of_a_try(self):
        self.check("while true { try { break; } catch e { show 1; } } fail 2;", " | failed 2")
        self.check("try { while true { try { break; } catch e { show e; } } fail 2; } catch e { show e + 10; }", "12 | done")
        self.check("while true { try { fail 1; } catch e { show e; break; } } show 2;", "1 2 | done")
        self.check("let i = 0; while i < 3 { i = i + 1; try { if i == 2 { break; } } catch e { } } show i;", "2 | done")

    def test_a_return_out_of_a_try(self):
        self.check("let f = fn () { try { return 1; } catch e { return 2; } }; show f(); fail 3;", "1 | failed 3")
        self.check("let f = fn () { while true { try { return 1; } catch e { show e; } } }; try { show f(); fail 3; } "
                   "catch e { show e + 10; }", "1 13 | done")

    def test_what_was_begun_is_left(self):
        self.check("let a = [0]; try { a[0] = 1; a[0] = 2 + nothing; } catch e { } show a[0];", "1 | done")
        self.check("let x = 1; try { x = 2; let y = 1 / 0; x = 3; } catch e { show x; } show [1, [2, x][1]][1];", "2 2 | done")


class StepsTest(unittest.TestCase):
    def check_steps(self, text, steps):
        tree = tree_of(text)
        shown, end = meaning_of(tree, MOST)
        self.assertEqual(steps_of(tree, steps), steps, text)
        self.assertEqual(steps_of(tree, steps + 7), steps)
        self.assertEqual(meaning_of(tree, steps), (shown, end))
        if steps:
            self.assertEqual(steps_of(tree, steps - 1), None)
            self.assertEqual(meaning_of(tree, steps - 1)[1], ("going",))

    def test_how_many(self):
        for text, steps in (
            ("", 0), ("show 1;", 2), ("let a = 1; a = a;", 4), ("let f = fn () { show 1; };", 2),
            ("fn () { show 1; }();", 5), ("fn (a, b) { }(1, 2);", 5), ("[1, 2, []];", 5), ("many(1, 2);", 4),
            ("[1][0] = 2;", 5), ("true and false;", 4), ("false and false;", 3), ("true or false;", 3),
            ("false or true;", 4), ("if true { 1; 2; } else { 1; }", 6), ("if false { 1; 2; } else { 1; }", 4),
            ("while false { }", 2), ("let i = 0; while i < 2 { i = i + 1; }", 20), ("while true { break; }", 3),
            ("try { 1; } catch e { 1; 2; }", 3), ("try { fail 1; } catch e { 1; }", 5), ("-1; -(1); not true;", 8),
            ("1 / 0; 2;", 4), ("len([]);", 3), ("fail 1; fail 2;", 2), ("1(2, 3);", 5),
        ):
            self.check_steps(text, steps)

    def test_more_steps_show_no_less(self):
        text = "let i = 0; while i < 5 { show i; try { i = i + 1; if i == 3 { fail i; } } catch e { show e * 100; } }"
        tree = tree_of(text)
        whole = meaning_of(tree, MOST)
        many = steps_of(tree, MOST)
        for most in range(many + 5):
            shown, end = meaning_of(tree, most)
            self.assertEqual(shown, whole[0][:len(shown)])
            self.assertEqual(end, ("done",) if most >= many else ("going",))
            self.assertEqual(steps_of(tree, most), many if most >= many else None)

    def test_most_steps(self):
        tree = tree_of("let i = 0; while true { i = i + 1; show i; }")
        shown, end = meaning_of(tree, MOST)
        self.assertEqual((len(shown), end), ((MOST - 2) // 7, ("going",)))
        self.assertEqual(meaning_of(tree_of("show 1;"), 0), ((), ("going",)))
        self.assertEqual(steps_of(most=0, tree=()), 0)
        self.assertEqual(meaning_of(most=0, tree=()), ((), ("done",)))

    def test_deep_calls(self):
        text = "let f = fn (n) { if n == 0 { MORE } return 1 + f(n - 1); }; "
        for many in (10, 1500, 6000):
            most = 20 * many + 100
            self.assertEqual(outcome(text.replace("MORE", "return 0;") + f"show f({many});", most), f"{many} | done")
            self.assertEqual(outcome(text.replace("MORE", "fail n;") + f"try {{ f({many}); }} catch e {{ show e; }}", most),
                             "0 | done")
            self.assertEqual(outcome(text.replace("MORE", "n();") + f"show f({many});", most), " | failed kind")
        self.assertEqual(outcome("let f = fn () { return f(); }; f();", 200000), " | going")

    def test_deep_functions_and_arrays(self):
        text = "let a = fn () { return 0; }; let i = 0; while i < 700 { let b = a; a = fn () { return b() + 1; }; i = i + 1; } "
        self.assertEqual(outcome(text + "show a();"), "700 | done")
        text = "let a = []; let i = 0; while i < 1000 { a = [a, i]; i = i + 1; } show a[0][1];"
        self.assertEqual(outcome(text), "998 | done")


class MeaningTest(unittest.TestCase):
    def test_errors_of_names_come_first(self):
        for text, error in (("show 1; show x;", NoName("x")), ("let a = 1; let a = 2;", Twice("a")),
                            ("show 1; return 1;", Misplaced("return")), ("fn () { break; };", Misplaced("break"))):
            for function in (meaning_of, steps_of):
                for tree in (tree_of(text), lists_of(tree_of(text))):
                    with self.assertRaises(type(error)) as caught:
                        function(tree, 0)
                    self.assertEqual(told_error(caught.exception), told_error(error))

    def test_random_programs(self):
        for seed in range(600):
            tree = random_program(seed, seed % 4 + 1)
            for most in (0, seed % 50, 400, 1500):
                wanted = Meaning(tree, most)
                self.assertEqual(repr(meaning_of(tree, most)), repr(wanted.outcome()))
                self.assertEqual(steps_of(tree, most), None if wanted.end == ("going",) else wanted.steps)

    def test_lists(self):
        for seed in range(60):
            tree = random_program(seed, 3)
            listed = lists_of(tree)
            self.assertEqual(repr(meaning_of(listed, 500)), repr(meaning_of(tree, 500)))
            self.assertEqual(steps_of(listed, 500), steps_of(tree, 500))
            self.assertEqual(repr(listed), repr(lists_of(tree)))
            self.assertEqual(meaning_of(tree, 500), meaning_of(tree, 500))


if __name__ == "__main__":
    unittest.main()
