"""Section 12 of the document: trimming.py."""

import unittest

from gathermill.checker import is_taken
from gathermill.errors import Fault
from gathermill.machine import live_words, run_plain, states_along
from gathermill.trimming import is_trim, trimmed, trimmed_by, trims
from gathermill.values import words_of
from tests.examples_of_document import check_file
from tests.programs import STRANGE, lists_of, made, main, raised, told
from tests.random_codes import bent_program, compiled_program, grown_program, shaped_program
from tests.reference_codes import trims_plainly

RULES = ("worked", "dropped", "known", "sure", "twice", "same", "guarded", "next", "thread", "dead", "codes")


class RulesTest(unittest.TestCase):
    def check(self, body, rule, place, other, slots=1):
        """Whether a trim of this rule, the only one of it, makes other INSTRUCTIONS of those of main."""
        program = main(body, slots)
        self.assertIs(is_taken(program), True)
        found = [own for own in trims(program) if own[0] == rule]
        self.assertEqual(found, [(rule, 0, place)], body)
        self.assertEqual(repr(trimmed_by(program, found[0])), repr(main(other, slots)), body)
        self.assertEqual(trimmed_by(trim=list(found[0]), program=lists_of(program)), main(other, slots))

    def check_none(self, body, rule, slots=1):
        program = main(body, slots)
        self.assertIs(is_taken(program), True)
        self.assertEqual([own for own in trims(program) if own[0] == rule], [], body)
        for place in range(len(program[0][3])):
            self.assertEqual(told(trimmed_by, program, (rule, 0, place)), raised("CanNot"))

    def test_examples(self):
        check_file(self, "12")

    def test_worked(self):
        self.check("constant number 1; constant number 2; one -; show; show; halt", "worked", 1,
                   "constant number 1; constant number -2; show; show; halt")
        self.check("constant truth true; one not; show; halt", "worked", 0, "constant truth false; show; halt")
        self.check("constant number 7; constant number 2; two ~; show; halt", "worked", 0, "constant number 1; show; halt")
        self.check("constant word red; constant nothing; two ==; show; halt", "worked", 0, "constant truth false; show; halt")
        self.check("constant number 1; constant truth true; two !=; show; halt", "worked", 0, "constant truth true; show; halt")

    def test_not_worked(self):
        for body in ("constant number 1; one not; show; halt", "constant truth true; one -; show; halt",
                     "constant number 1; constant number 0; two /; show; halt",
                     "constant number 1000000000; constant number 1; two +; show; halt",
                     "constant number 1; constant truth true; two +; show; halt",
                     "constant number 1; store 0; load 0; one -; show; halt",
                     "constant number 1; store 0; load 0; constant number 2; two +; show; halt",
                     "constant number 1; store 0; constant number 1; load 0; two +; show; halt",
                     "constant number 1; constant number 2; show; show; halt"):
            self.check_none(body, "worked")

    def test_dropped(self):
        self.check("constant number 1; pop; halt", "dropped", 0, "halt")
        self.check("constant number 1; store 0; load 0; pop; halt", "dropped", 2, "constant number 1; store 0; halt")
        self.check("constant number 1; store 0; box 0; open 0; pop; halt", "dropped", 3,
                   "constant number 1; store 0; box 0; halt")
        program = made("0 1 0: constant number 1; store 0; box 0; close 1 slot 0; call 0; show; halt", "0 0 1: up 0; pop; up 0; return")
        self.assertEqual(trims(program), [("dropped", 1, 0)])
        self.assertEqual(trimmed_by(program, ("dropped", 1, 0))[1], (0, 0, 1, (("up", 0), ("return",))))
        self.check_none("array 0; pop; constant number 1; show; halt", "dropped")
        self.assertEqual(trims(made("0 0 0: close 1; pop; halt", "0 0 0: constant number 1; return")), [])

    def test_known(self):
        self.check("constant truth true; unless 3; halt; halt", "known", 0, "halt; halt")
        self.check("constant truth false; unless 3; halt; halt", "known", 0, "jump 2; halt; halt")
        for other in ("number 0", "number 1", "nothing", "word true"):
            self.check_none(f"constant {other}; unless 3; halt; halt", "known")
        self.check_none("constant truth true; store 0; load 0; unless 5; halt; halt", "known")

    def test_sure(self):
        self.check("constant truth true; sure; show; halt", "sure", 0, "constant truth true; show; halt")
        self.check("constant truth false; sure; show; halt", "sure", 0, "constant truth false; show; halt")
        self.check("constant number 1; one not; sure; show; halt", "sure", 1, "constant number 1; one not; show; halt")
        self.check("constant number 1; sure; sure; show; halt", "sure", 1, "constant number 1; sure; show; halt")
        self.check("constant number 1; sure; unless 4; halt; halt", "sure", 1, "constant number 1; unless 3; halt; halt")
        for op in ("<", "<=", "==", "!="):
            self.check(f"constant number 1; store 0; load 0; load 0; two {op}; sure; show; halt", "sure", 4,
                       f"constant number 1; store 0; load 0; load 0; two {op}; show; halt")
        for op in ("+", "-", "*", "/", "~"):
            self.check_none(f"constant number 1; constant number 1; two {op}; sure; show; halt", "sure")
        for first in ("constant number 1", "constant nothing", "constant word true", "constant number 1; one -",
                      "constant number 1; store 0; load 0", "array 0"):
            self.check_none(first + "; sure; show; halt", "sure")

    def test_twice(self):
        self.check("constant number 1; one not; one not; show; halt", "twice", 1, "constant number 1; sure; show; halt")
        self.check_none("constant number 1; one -; one -; show; halt", "twice")
        self.check_none("constant number 1; one not; one -; one not; show; halt", "twice")
        program = main("constant number 1; one not; one not; one not; show; halt")
        self.assertEqual(trims(program), [("twice", 0, 1), ("twice", 0, 2)])
        self.assertEqual(trimmed(program), main("constant number 1; sure; one not; show; halt"))

    def test_same(self):
        self.check("constant number 1; store 0; load 0; store 0; halt", "same", 2, "constant number 1; store 0; halt", 2)
        self.check_none("constant number 1; store 0; load 0; store 1; halt", "same", 2)
        self.assertEqual(trims(main("constant number 1; store 0; box 0; open 0; fill 0; halt", 1)), [])

    def test_guarded(self):
        program = main("constant number 1; sure; guard 4; unguard; halt")
        self.assertEqual(told(trims, program), [("guarded", 0, 2)])
        self.assertEqual(trimmed_by(program, ("guarded", 0, 2)), main("constant number 1; sure; halt"))
        self.check_none("guard 4; constant number 1; store 0; unguard; halt", "guarded")

    def test_next(self):
        self.check("jump 1; halt", "next", 0, "halt")
        self.check("constant number 1; jump 2; show; halt", "next", 1, "constant number 1; show; halt")
        self.check_none("jump 0", "next")
        self.check_none("constant truth true; unless 2; halt", "next")
        self.check_none("guard 1; halt", "next")

    def test_thread(self):
        # Each of the other jumps must be come to in another way, else it would be dead.
        body = "constant number 1; unless 3; jump {}; jump 4; jump 5; halt"
        self.check_none(body.format(5), "worked")
        program = main(body.format(3))
        self.assertEqual([own for own in trims(program) if own[0] == "thread"],
                         [("thread", 0, 1), ("thread", 0, 2), ("thread", 0, 3)])
        self.assertEqual(trimmed_by(program, ("thread", 0, 2)), main(body.format(5)))
        self.assertEqual(trimmed_by(program, ("thread", 0, 1)), main(body.format(3).replace("unless 3", "unless 5")))
        self.assertEqual(trimmed(program), main("constant number 1; unless 2; halt"))

    def test_rings_of_jumps_are_no_threads(self):
        for body in ("jump 0", "jump 1; jump 0", "constant number 1; unless 4; halt; halt; jump 4",
                     "constant number 1; unless 3; halt; jump 4; jump 3", "constant number 1; unless 3; jump 4; jump 5; jump 3; jump 4"):
            self.check_none(body, "thread")
        # A guard is not threaded.
        self.assertEqual(trims(main("guard 5; array 0; store 0; unguard; halt; jump 6; store 0; halt", 1)), [("next", 0, 5)])


class ToldPlacesTest(unittest.TestCase):
    """What tells a place of a later INSTRUCTION named hinders a trim; what tells the first one does not."""

    # The rule, the INSTRUCTIONS, those in their stead, how high the stack must be, how high it is at the later ones.
    ROWS = (
        ("worked", "constant number 1; one -", "constant number -1", 0, (1,)),
        ("worked", "constant number 1; constant number 2; two +", "constant number 3", 0, (1, 2)),
        ("dropped", "constant number 1; pop", "", 0, (1,)),
        ("dropped", "load 0; pop", "", 0, (1,)),
        ("known", "constant truth true; unless @", "", 0, (1,)),
        ("known", "constant truth false; unless @", "jump @", 0, (1,)),
        ("sure", "constant truth true; sure", "constant truth true", 0, (1,)),
        ("sure", "sure; sure", "sure", 1, (1,)),
        ("sure", "one not; sure", "one not", 1, (1,)),
        ("sure", "two <; sure", "two <", 2, (1,)),
        ("sure", "sure; unless @", "unless @", 1, (1,)),
        ("twice", "one not; one not", "sure", 1, (1,)),
        ("same", "load 0; store 0", "", 0, (1,)),
        ("guarded", "guard @; unguard", "", 0, (0,)),
        ("next", "jump @", "", 0, ()),
    )

    def build(self, text, height, target, high):
        """A PROGRAM that goes to the begin of a row of INSTRUCTIONS by one way, to a target in it by another one.

        @ is the place of the halt behind the row.
        """
        row = text.split("; ") if text else []
        first = 4 + height
        end = first + len(row)
        body = ["constant number 5", "store 0", "load 0", f"unless {end + 1}"] + ["load 0"] * height + row + ["halt"]
        body += ["load 0"] * high
        if target and row[0] == "guard @":
            body.append("guard @")
        body.append(f"jump {first + target}")
        return main("; ".join(body).replace("@", str(end)), 1), first

    def test_told_first_ones(self):
        for rule, text, stead, height, _ in self.ROWS:
            program, place = self.build(text, height, 0, height)
            self.assertIn((rule, 0, place), trims(program), text)
            self.assertIs(is_trim(program, (rule, 0, place)), True)
            self.assertEqual(trimmed_by(program, (rule, 0, place)), self.build(stead, height, 0, height)[0], text)

    def test_told_later_ones(self):
        for rule, text, _, height, more in self.ROWS:
            for target, high in enumerate(more, 1):
                program, place = self.build(text, height, target, high)
                self.assertIs(is_taken(program), True, text)
                self.assertNotIn((rule, 0, place), trims(program), text)
                self.assertIs(is_trim(program, (rule, 0, place)), False)
                self.assertEqual(told(trimmed_by, program, (rule, 0, place)), raised("CanNot"))

    def test_an_unless_or_a_guard_may_tell_it(self):
        body = "constant number 1; constant number 1; unless {}; pop; constant number 1; pop; halt; pop; halt"
        self.assertEqual(trims(main(body.format(7))), [("dropped", 0, 4)])
        self.assertEqual(trims(main(body.format(5).replace("; pop; halt; pop; halt", "; pop; halt"))), [])
        body = "guard {}; array 0; store 0; unguard; constant number 1; pop; halt; pop; halt"
        self.assertEqual(trims(main(body.format(7), 1)), [("dropped", 0, 4)])
        self.assertEqual(trims(main(body.format(5).replace("; pop; halt; pop; halt", "; pop; halt"), 1)), [])

    def test_one_that_tells_a_later_one_named(self):
        self.assertEqual(trims(main("constant number 1; guard 2; unguard; halt")), [])
        self.assertEqual(trims(main("guard 2; unguard; halt")), [("guarded", 0, 0)])
        self.assertEqual(trims(main("constant truth true; unless 2; halt")), [("known", 0, 0)])
        program = main("constant number 1; sure; unless 0; halt")
        self.assertEqual(trimmed_by(program, ("sure", 0, 1)), main("constant number 1; unless 0; halt"))

    def test_places_are_told_anew(self):
        program = main("jump 6; constant number 3; constant number 4; two *; show; halt; constant truth true; unless 1; "
                       "guard 12; constant number 0; sure; unguard; jump 13; halt")
        self.assertEqual(trims(program), [("worked", 0, 1), ("known", 0, 6), ("next", 0, 12)])
        self.assertEqual(trimmed_by(program, ("worked", 0, 1)), main(
            "jump 4; constant number 12; show; halt; constant truth true; unless 1; "
            "guard 10; constant number 0; sure; unguard; jump 11; halt"))
        self.assertEqual(trimmed_by(program, ("known", 0, 6)), main(
            "jump 6; constant number 3; constant number 4; two *; show; halt; "
            "guard 10; constant number 0; sure; unguard; jump 11; halt"))


class DeadTest(unittest.TestCase):
    def test_all_dead_ones_fall_away(self):
        program = main("jump 3; pop; pop; constant number 1; unless 6; jump 0; jump 9; load 9; jump 99; jump 9")
        self.assertEqual(trims(program), [("dead", 0, 1)])
        self.assertEqual(trimmed_by(program, ["dead", 0, 1]),
                         main("jump 1; constant number 1; unless 4; jump 0; jump 5; jump 5"))
        self.assertEqual(told(trimmed_by, program, ("dead", 0, 2)), raised("CanNot"))
        self.assertEqual(trims(main("halt; halt")), [("dead", 0, 1)])

    def test_a_guard_that_tells_a_dead_one_tells_0(self):
        program = main("constant number 1; guard 6; constant number 2; show; unguard; halt; pop; pop; halt")
        self.assertEqual(trims(program), [("dead", 0, 6)])
        self.assertEqual(trimmed_by(program, ("dead", 0, 6)), main("constant number 1; guard 0; constant number 2; show; unguard; halt"))
        # One that tells what is come to is told anew.
        program = main("jump 2; halt; guard 7; constant number 2; sure; show; jump 1; pop; halt")
        self.assertEqual(trims(program), [])
        program = main("jump 2; pop; guard 7; constant number 2; sure; show; halt; pop; halt")
        self.assertEqual(trimmed_by(program, ("dead", 0, 1)), main("jump 1; guard 6; constant number 2; sure; show; halt; pop; halt"))

    def test_dead_alone_in_its_code(self):
        program = made("0 0 0: close 1; pop; constant number 1; pop; jump 5; halt", "0 0 0: constant number 1; pop; jump 0; pop",
                       "0 0 0: jump 1; jump 0; jump 2")
        self.assertEqual(trims(program), [("dropped", 0, 2), ("next", 0, 4), ("dead", 1, 3), ("dead", 2, 2), ("codes", 0, 0)])
        self.assertEqual(trims(trimmed_by(program, ("dead", 1, 3)))[2:4], [("dropped", 1, 0), ("dead", 2, 2)])


class CodesTest(unittest.TestCase):
    def test_numbered_anew(self):
        program = made("0 0 0: close 4; pop; halt", "0 0 0: jump 0", "0 0 0: close 5; pop; jump 0", "0 0 0: close 1; pop; jump 0",
                       "0 0 0: close 2; pop; jump 0", "0 1 0: jump 0", "0 9 0: close 6; pop; jump 0")
        self.assertEqual(trims(program), [("codes", 0, 0)])
        wanted = made("0 0 0: close 2; pop; halt", "0 0 0: close 3; pop; jump 0", "0 0 0: close 1; pop; jump 0", "0 1 0: jump 0")
        self.assertEqual(trimmed_by(program, ("codes", 0, 0)), wanted)
        self.assertEqual(trimmed(program), wanted)
        self.assertEqual(trims(wanted), [])
        self.assertEqual(told(trimmed_by, wanted, ("codes", 0, 0)), raised("CanNot"))

    def test_dead_closes(self):
        # A close that is never come to names a CODE all the same; one that tells no CODE stays as it is.
        program = made("0 0 0: halt; close 2; close 7; close 0; close 3 up 9", "0 0 0: jump 0", "0 0 0: jump 0")
        self.assertEqual(trims(program), [("dead", 0, 1), ("codes", 0, 0)])
        self.assertEqual(trimmed_by(program, ("codes", 0, 0)),
                         made("0 0 0: halt; close 1; close 7; close 0; close 3 up 9", "0 0 0: jump 0"))
        self.assertEqual(trimmed(program), main("halt"))

    def test_a_code_that_calls_itself_alone(self):
        program = made("0 0 0: halt", "0 0 0: close 1; pop; jump 0")
        self.assertEqual(trims(program), [("codes", 0, 0)])
        self.assertEqual(trimmed(program), main("halt"))


class OrderAndErrorsTest(unittest.TestCase):
    def test_order(self):
        program = made("0 1 0: jump 1; jump 2; constant truth true; sure; unless 7; constant number 1; store 0; close 1; pop; halt",
                       "1 1 0: load 0; store 0; constant truth false; one not; one not; return", "0 0 0: jump 0")
        self.assertEqual(trims(lists_of(program)), [
            ("next", 0, 0), ("thread", 0, 0), ("next", 0, 1), ("sure", 0, 2), ("sure", 0, 3), ("same", 1, 0), ("worked", 1, 2),
            ("twice", 1, 3), ("codes", 0, 0)])
        self.assertIs(type(trims(program=program)), list)

    def test_is_trim(self):
        program = main("jump 1; constant number 1; pop; halt")
        for thing, wanted in ((("next", 0, 0), True), (("dropped", 0, 1), True), (["next", 0, 0], False), (("next", 0, False), False),
                              (("next", False, 0), False), (("dropped", 0, True), False), (("next", 0, 1), False), (("next", 0), False),
                              (("next", 0, 0, 0), False), (("thread", 0, 0), False), (("codes", 0, 0), False), (("dead", 0, 1), False),
                              ("next", False), (("next", 0, -3), False), (("next", 0, None), False), ((("next", 0, 0),), False)):
            self.assertIs(is_trim(program, thing), wanted, thing)
        for thing in STRANGE:
            self.assertIs(is_trim(thing=thing, program=program), False)
            self.assertIs(is_trim(program, ("next", thing, thing)), type(thing) is int and thing == 0)

    def test_errors_of_the_checker_come_first(self):
        for program, error in ((main("pop; halt"), raised("Refused", code=0, place=0)), ((), raised("Unfit")),
                               (((1, 1, 0, (("halt",),)),), raised("Unfit")), (None, raised("Unfit")),
                               (made("0 0 0: halt", "0 0 0: constant number 1"), raised("Refused", code=1, place=0))):
            for function, more in ((trims, ()), (is_trim, (1,)), (trimmed_by, (("x", 0, 0),)), (trimmed, ())):
                self.assertEqual(told(function, program, *more), error)

    def test_no_trim(self):
        program = main("jump 1; halt")
        for trim in (("next", 0, 1), ("next", 1, 0), ("dead", 0, 0), ("codes", 0, 0), ("thread", 0, 0), ["jump", 0, 0]):
            self.assertEqual(told(trimmed_by, program, trim), raised("CanNot"))
        self.assertEqual(trimmed_by(program, ["next", 0, 0]), main("halt"))


class RandomTest(unittest.TestCase):
    def programs(self):
        for seed in range(120):
            for program in (grown_program(seed), shaped_program(seed), bent_program(seed), compiled_program(seed, 2)):
                if is_taken(program):
                    yield program

    def test_as_the_table_tells(self):
        found = {}
        for program in self.programs():
            wanted = trims_plainly(program)
            self.assertEqual(trims(program), list(wanted))
            for trim, comes in wanted.items():
                found[trim[0]] = found.get(trim[0], 0) + 1
                self.assertEqual(repr(trimmed_by(program, trim)), repr(comes), (program, trim))
                self.assertIs(is_taken(comes), True)
        self.assertEqual(set(found), set(RULES))

    def test_trimmed_has_none_left(self):
        for program in self.programs():
            comes = program
            while trims(comes):
                comes = trimmed_by(comes, trims(comes)[0])
            self.assertEqual(repr(trimmed(program)), repr(comes))
            self.assertEqual(trimmed(program=lists_of(comes)), comes)

    def new_objects(self, program, limits, most):
        """The list of the pairs (words, live words ahead) of the new OBJECTS of a run."""
        states = states_along(program, limits, most)
        return [(words_of(behind[1][-1]), live_words(ahead)) for ahead, behind in zip(states, states[1:])
                if len(behind[1]) > len(ahead[1])]

    def test_runs_stay_the_same(self):
        for program in self.programs():
            comes = trimmed(program)
            for limits in ((30, 4, 6), (6, 4, 2)):
                outcome = run_plain(program, limits, 150)
                self.assertRaises(Fault, run_plain, main("pop; halt"), limits, 1)
                if outcome[1] == ("going",):
                    continue
                most = len(states_along(program, limits, 150)) - 1
                self.assertEqual(run_plain(comes, limits, most), outcome)
                self.assertEqual(self.new_objects(comes, limits, most), self.new_objects(program, limits, most))


if __name__ == "__main__":
    unittest.main()
