"""Section 11 of the document: compiler.py."""

import unittest

from gathermill.checker import is_taken, table_of
from gathermill.codes import is_program, program_read, program_text
from gathermill.compiler import begins, compiled, compiled_text
from gathermill.machine import run_plain
from gathermill.meaning import meaning_of
from gathermill.names import plan_of
from gathermill.reader import tree_of
from gathermill.trees import tree_text
from tests.examples_of_document import check_file
from tests.programs import lists_of, made, raised, told
from tests.random_trees import random_program, random_tree
from tests.reference_codes import compile_plainly


class RowsTest(unittest.TestCase):
    """Each row of the table, as the INSTRUCTIONS of a text."""

    def check(self, text, *codes):
        self.assertEqual(repr(compiled_text(text)), repr(made(*codes)), text)
        self.assertIs(is_taken(compiled_text(text)), True)

    def test_examples(self):
        check_file(self, "11")

    def test_no_statement(self):
        self.check("", "0 0 0: halt")
        self.check("fn () { };", "0 0 0: close 1; pop; halt", "0 0 0: constant nothing; return")

    def test_constants_and_names(self):
        self.check('1; true; nothing; "red";', "0 0 0: constant number 1; pop; constant truth true; pop; constant nothing; "
                   "pop; constant word red; pop; halt")
        self.check("let a = 1; a; a = 2;", "0 1 0: constant number 1; store 0; load 0; pop; constant number 2; store 0; halt")
        self.check("let a = 1; a; fn () { a = a; };",
                   "0 1 0: constant number 1; store 0; box 0; open 0; pop; close 1 slot 0; pop; halt",
                   "0 0 1: up 0; upfill 0; constant nothing; return")
        self.check("let a = 1; a = 2; fn () { a; };",
                   "0 1 0: constant number 1; store 0; box 0; constant number 2; fill 0; close 1 slot 0; pop; halt",
                   "0 0 1: up 0; pop; constant nothing; return")

    def test_functions(self):
        self.check("let a = 1; fn (b) { fn () { a; b; }; };",
                   "0 1 0: constant number 1; store 0; box 0; close 1 slot 0; pop; halt",
                   "1 1 1: box 0; close 2 up 0 slot 0; pop; constant nothing; return",
                   "0 0 2: up 0; pop; up 1; pop; constant nothing; return")
        self.check("fn (a, b, c) { fn () { c; a; }; };", "0 0 0: close 1; pop; halt",
                   "3 3 0: box 0; box 2; close 2 slot 2 slot 0; pop; constant nothing; return",
                   "0 0 2: up 0; pop; up 1; pop; constant nothing; return")

    def test_calls_arrays_and_the_like(self):
        self.check("1(2, 3); [4, 5]; []; many(6, 7); 1[2]; len(3);",
                   "0 0 0: constant number 1; constant number 2; constant number 3; call 2; pop; constant number 4; "
                   "constant number 5; array 2; pop; array 0; pop; constant number 6; constant number 7; many; pop; "
                   "constant number 1; constant number 2; item; pop; constant number 3; length; pop; halt")
        self.check("not true; -(1); 1 ~ 2;", "0 0 0: constant truth true; one not; pop; constant number 1; one -; pop; "
                   "constant number 1; constant number 2; two ~; pop; halt")

    def test_both_and_either(self):
        self.check("true and 1;", "0 0 0: constant truth true; unless 5; constant number 1; sure; jump 6; "
                   "constant truth false; pop; halt")
        self.check("true or 1;", "0 0 0: constant truth true; unless 4; constant truth true; jump 6; constant number 1; "
                   "sure; pop; halt")

    def test_lets(self):
        self.check("let a = 1; let b = fn () { };", "0 2 0: constant number 1; store 0; close 1; store 1; halt",
                   "0 0 0: constant nothing; return")
        self.check("let a = 1; fn () { a; };", "0 1 0: constant number 1; store 0; box 0; close 1 slot 0; pop; halt",
                   "0 0 1: up 0; pop; constant nothing; return")
        self.check("let f = fn () { f(); };",
                   "0 1 0: constant nothing; store 0; box 0; close 1 slot 0; fill 0; halt",
                   "0 0 1: up 0; call 0; pop; constant nothing; return")
        # A function that is not e itself is no reason for a CELL made ahead.
        self.check("let f = [fn () { }]; fn () { f; };",
                   "0 1 0: close 1; array 1; store 0; box 0; close 2 slot 0; pop; halt", "0 0 0: constant nothing; return",
                   "0 0 1: up 0; pop; constant nothing; return")

    def test_plain_statements(self):
        self.check("1[2] = 3; show 1; fail 2; fn () { return 3; };",
                   "0 0 0: constant number 1; constant number 2; constant number 3; setitem; constant number 1; show; "
                   "constant number 2; fail; close 1; pop; halt", "0 0 0: constant number 3; return; constant nothing; return")

    def test_if(self):
        self.check("if true { show 1; } else { show 2; }", "0 0 0: constant truth true; unless 5; constant number 1; show; "
                   "jump 7; constant number 2; show; halt")
        self.check("if true { } else if false { }", "0 0 0: constant truth true; unless 3; jump 6; constant truth false; "
                   "unless 6; jump 6; halt")

    def test_while_and_break(self):
        self.check("while true { break; while false { break; } break; }",
                   "0 0 0: constant truth true; unless 9; jump 9; constant truth false; unless 7; jump 7; jump 3; jump 9; "
                   "jump 0; halt")

    def test_try(self):
        self.check("try { show 1; } catch e { show e; }", "0 1 0: guard 5; constant number 1; show; unguard; jump 8; "
                   "store 0; load 0; show; halt")
        self.check("try { } catch e { fn () { e; }; }", "0 1 0: guard 3; unguard; jump 7; store 0; box 0; close 1 slot 0; "
                   "pop; halt", "0 0 1: up 0; pop; constant nothing; return")

    def test_break_out_of_try(self):
        self.check("while true { try { try { break; } catch a { break; } } catch b { break; } }",
                   "0 2 0: constant truth true; unless 17; guard 14; guard 9; unguard; unguard; jump 17; unguard; jump 12; "
                   "store 0; unguard; jump 17; unguard; jump 16; store 1; jump 17; jump 0; halt")
        # The while stands within the first try: what is around it stays guarded.
        self.check("try { while true { try { if true { break; } } catch a { } } } catch b { }",
                   "0 2 0: guard 15; constant truth true; unless 13; guard 11; constant truth true; unless 9; unguard; "
                   "jump 13; jump 9; unguard; jump 12; store 0; jump 1; unguard; jump 16; store 1; halt")


class BeginsTest(unittest.TestCase):
    def test_statements_within_statements(self):
        text = ("if true { show 1; show 2; } else { while true { break; } } try { let f = fn (a) { return a; show a; }; } "
                "catch e { e = fn () { }; show e; } show 3;")
        tree = tree_of(text)
        wanted = ((0, 2, 4, 7, 9, 11, 12, 17, 19, 21), (0, 2), ())
        self.assertEqual(begins(tree), wanted)
        self.assertEqual(begins(tree=lists_of(tree)), wanted)

    def test_boxes_of_names_stand_ahead(self):
        self.assertEqual(begins(tree_of("fn (a) { fn () { a; }; };")), ((0,), (1,), (0,)))

    def test_no_statement(self):
        self.assertEqual(begins(()), ((),))


class ErrorsTest(unittest.TestCase):
    def test_errors(self):
        for text, error in (
            ("show x;", raised("NoName", name="x")), ("let a = 1; let a = 2;", raised("Twice", name="a")),
            ("break;", raised("Misplaced", word="break")), ("return 1;", raised("Misplaced", word="return")),
            ("fn () { break; }; show y;", raised("Misplaced", word="break")),
        ):
            for told_of in (told(compiled, tree_of(text)), told(begins, lists_of(tree_of(text))), told(compiled_text, text),
                            told(plan_of, tree_of(text))):
                self.assertEqual(told_of, error)

    def test_bad_texts_come_ahead(self):
        self.assertEqual(told(compiled_text, "show x;\nshow"), raised("BadText", line=2))
        self.assertEqual(told(compiled_text, text="break;\n!"), raised("BadText", line=2))


class RandomTest(unittest.TestCase):
    def test_as_the_table_tells(self):
        for seed in range(250):
            tree = random_program(seed, 3)
            program, places = compile_plainly(tree)
            self.assertEqual(repr(compiled(tree)), repr(program))
            self.assertEqual(begins(tree), places)
            self.assertEqual(compiled(tree=lists_of(tree)), program)
            self.assertEqual(compiled_text(text=tree_text(tree)), program)
            self.assertEqual(program_read(program_text(program)), program)
            self.assertIs(is_program(program), True)

    def test_errors_of_random_trees(self):
        for seed in range(200):
            tree = random_tree(seed)
            plan = told(plan_of, tree)
            if isinstance(plan[0], type):
                self.assertEqual((told(compiled, tree), told(begins, tree)), (plan, plan))

    def test_taken(self):
        for seed in range(200):
            tree = random_program(seed)
            program = compiled(tree)
            table = table_of(program)
            for rows, places in zip(table, begins(tree)):
                # At the first INSTRUCTION of a STATEMENT, if it is come to, the stack is empty.
                self.assertLessEqual({rows[place][1] for place in places if rows[place]}, {0})

    def test_deep_trees(self):
        tree = (("show", ("constant", 1)),)
        part = ("constant", 1)
        for _ in range(2000):
            tree = (("if", ("constant", True), tree, ()),)
            part = ("one", "-", part)
        program = compiled(tree + (("show", part),))
        self.assertEqual(len(program[0][3]), 2 + 3 * 2000 + 1 + 2000 + 1 + 1)
        self.assertEqual(run_plain(program, (0, 4, 1), 20000), (("1", "1"), ("done",)))

    def test_runs_mean_what_trees_mean(self):
        ends = {}
        for seed in range(300):
            tree = random_program(seed, 3)
            outcome = meaning_of(tree, 2000)
            if outcome[1] != ("going",):
                ends[outcome[1][:1]] = ends.get(outcome[1][:1], 0) + 1
                self.assertEqual(run_plain(compiled(tree), (10 ** 9, 4, 10 ** 9), 20000), outcome)
        self.assertGreater(min(ends.values()), 20)


if __name__ == "__main__":
    unittest.main()
