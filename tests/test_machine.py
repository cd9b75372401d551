"""Section 14 of the document: machine.py."""

import unittest

from gathermill.checker import is_taken
from gathermill.compiler import compiled, compiled_text
from gathermill.machine import begun, canon, live, live_words, run_plain, states_along, stepped
from gathermill.meaning import meaning_of
from gathermill.values import words_of
from tests.examples_of_document import check_file
from tests.programs import lists_of, made, main, raised, told
from tests.random_codes import bent_program, compiled_program, grown_program, shaped_program
from tests.random_trees import random_program
from tests.reference_machine import Plain, reached

LIMITS = (100, 4, 10)


def ahead_of(program, place, limits=LIMITS, code=0):
    """The STATE ahead of the first INSTRUCTION that is done at this place."""
    return next(own for own in states_along(program, limits, 200) if own[0][-1][:2] == (code, place))


class DoingTest(unittest.TestCase):
    """What each word does, by one step from a STATE of a run."""

    def step(self, program, place, limits=LIMITS, code=0):
        """The running FRAME ahead and behind, and the OBJECTS behind."""
        state = ahead_of(program, place, limits, code)
        self.assertIs(is_taken(program), True)
        behind = stepped(program, state, limits)
        self.assertEqual(stepped(lists_of(program), lists_of(state), list(limits)), behind)
        self.assertEqual(stepped(limits=limits, state=state, program=program), behind)
        return state[0][-1] if state[0] else None, behind[0][-1] if behind[0] else None, behind[1]

    def check(self, body, place, stack, slots=((),), objects=None, guards=(), to=None):
        """What the running FRAME of main is behind the INSTRUCTION at a place."""
        program = main(body, len(slots)) if isinstance(body, str) else body
        _, frame, made_objects = self.step(program, place)
        self.assertEqual(repr(frame), repr((0, place + 1 if to is None else to, slots, stack, None, guards)), body)
        if objects is not None:
            self.assertEqual(repr(made_objects), repr(objects), body)

    def test_examples(self):
        check_file(self, "14")

    def test_constant_load_store(self):
        for text, own in (("number -3", -3), ("truth true", True), ("nothing", None), ("word kind", "kind")):
            self.check(f"constant {text}; halt", 0, (own,))
            self.check(f"constant {text}; store 0; halt", 1, (), (own,))
            self.check(f"constant {text}; store 0; load 0; halt", 2, (own,), (own,))

    def test_cells(self):
        body = "constant number 5; store 1; constant number 6; box 1; fill 1; open 1; halt"
        self.check(body, 3, (6,), ((), ("@", 0)), (("cell", 5),))
        self.check(body, 4, (), ((), ("@", 0)), (("cell", 6),))
        self.check(body, 5, (6,), ((), ("@", 0)), (("cell", 6),))

    def test_functions(self):
        program = made("0 2 0: constant number 5; store 0; box 0; constant number 8; store 1; box 1; constant number 7; "
                       "close 1 slot 1 slot 0; constant number 9; call 1; halt",
                       "1 3 2: constant number 4; close 2 up 1 up 0 up 1; up 1; load 0; upfill 0; return",
                       "0 0 3: jump 0")
        slots = (("@", 0), ("@", 1))
        self.check(program, 7, (7, ("@", 2)), slots, (("cell", 5), ("cell", 8), ("function", 1, (("@", 1), ("@", 0)))))
        _, frame, _ = self.step(program, 9)
        self.assertEqual(frame, (1, 0, (9, (), ()), (), ("@", 2), ()))
        _, frame, objects = self.step(program, 1, code=1)
        self.assertEqual(objects[3:], (("function", 2, (("@", 0), ("@", 1), ("@", 0))),))
        self.assertEqual(frame[1:4], (2, (9, (), ()), (4, ("@", 3))))
        self.assertEqual(self.step(program, 2, code=1)[1][3], (4, ("@", 3), 5))
        _, frame, objects = self.step(program, 4, code=1)
        self.assertEqual((objects[:2], frame[3]), ((("cell", 5), ("cell", 9)), (4, ("@", 3), 5)))
        state = ahead_of(program, 10)
        self.assertEqual(state[0], ((0, 10, slots, (7, 5), None, ()),))

    def test_calls_leave_the_lower_frame_behind_the_call(self):
        program = made("0 0 0: constant number 1; close 1; constant number 2; constant number 3; call 2; halt",
                       "2 2 0: load 1; return")
        state = ahead_of(program, 0, code=1)
        self.assertEqual(state[0], ((0, 5, (), (1,), None, ()), (1, 0, (2, 3), (), ("@", 0), ())))

    def test_jumps(self):
        self.check("jump 2; halt; halt", 0, (), to=2)
        self.check("constant truth true; unless 3; halt; halt", 1, (), to=2)
        self.check("constant truth false; unless 3; halt; halt", 1, (), to=3)
        self.check("constant truth false; sure; halt", 1, (False,))
        self.check("constant number 7; pop; halt", 1, ())

    def test_operations(self):
        self.check("constant number 7; one -; halt", 1, (-7,))
        self.check("constant number 7; constant truth true; one not; halt", 2, (7, False))
        self.check("constant number 7; constant number 2; two ~; halt", 2, (1,))
        self.check("constant number 9; constant number 7; constant number 2; two -; halt", 3, (9, 5))
        self.check("array 0; array 0; two ==; halt", 2, (False,))

    def test_arrays(self):
        three = "constant number 1; constant number 2; constant number 3; "
        self.check(three + "array 2; halt", 3, (1, ("@", 0)), objects=(("array", (2, 3)),))
        self.check(three + "array 0; halt", 3, (1, 2, 3, ("@", 0)), objects=(("array", ()),))
        self.check(three + "many; halt", 3, (1, ("@", 0)), objects=(("array", (3, 3)),))
        self.check("constant number 0; constant nothing; many; halt", 2, (("@", 0),), objects=(("array", ()),))
        self.check("constant number 5; array 1; constant number 0; item; halt", 3, (5,), objects=(("array", (5,)),))
        body = three + "array 3; store 0; load 0; constant number {}; constant word red; setitem; halt"
        for at, wanted in ((0, ("red", 2, 3)), (1, (1, "red", 3)), (2, (1, 2, "red"))):
            self.check(body.format(at), 8, (), (("@", 0),), (("array", wanted),))
        self.check(three + "array 2; length; halt", 4, (1, 2))

    def test_guards(self):
        self.check("constant number 1; guard 3; halt; halt", 1, (1,), guards=((3, 1),))
        self.check("guard 5; guard 4; unguard; halt; halt; halt", 2, (), guards=((5, 0),))
        self.check("guard 3; constant number 1; fail; pop; halt", 2, (1,), to=3)

    def test_show_and_halt(self):
        program = compiled_text('show 1; show true; show nothing; show "red"; show [1, 2]; show fn (a, b) { }; show -5;')
        states = states_along(program, LIMITS, 99)
        self.assertEqual(states[-1], ((), states[-2][1], ("1", "true", "nothing", "red", "array 2", "function 2", "-5"), ("done",)))
        self.assertEqual(told(stepped, program, states[-1], LIMITS), raised("Unfit"))

    def test_halt_within_calls(self):
        program = made("0 0 0: close 1; call 0; halt", "0 0 0: halt")
        self.assertEqual(run_plain(program, LIMITS, 9), ((), ("done",)))

    def test_begun(self):
        self.assertEqual(begun(main("halt", 3)), (((0, 0, ((), (), ()), (), None, ()),), (), (), None))
        self.assertEqual(begun(program=lists_of(main("halt"))), (((0, 0, (), (), None, ()),), (), (), None))


class OutcomeCase(unittest.TestCase):
    """What is told of OUTCOMES alone; the tests of the mill take these tests, too."""

    def outcome(self, program, limits, most):
        """The OUTCOME of a run."""
        return run_plain(program, limits, most)


class LacksTest(OutcomeCase):
    def check(self, body, lack, limits=LIMITS, slots=2):
        """Whether a run of main, or of a PROGRAM, fails by a lack; the same guarded is caught, with its stack cut."""
        program = main(body, slots) if isinstance(body, str) else body
        self.assertEqual(self.outcome(program, limits, 99), ((), ("failed", lack)), body)
        if isinstance(body, str):
            size = body.count(";") + 1
            guarded = main(f"constant number 3; guard {size + 3}; {body}; halt; show; show; halt", slots)
            self.assertEqual(self.outcome(guarded, limits, 99), ((lack, "3"), ("done",)), body)

    def test_kinds(self):
        one, array, truth = "constant number 1", "array 0", "constant truth true"
        for body in (f"{one}; call 0", f"{array}; call 0", f"{truth}; {one}; call 1", f"{truth}; {one}; many", f"{array}; {one}; many",
                     f"{one}; {one}; item", f"{array}; {truth}; item", f"close 0; {one}; item", f"{one}; {one}; {one}; setitem",
                     f"{array}; {array}; {one}; setitem", f"{array}; constant nothing; {one}; setitem", f"{one}; length",
                     "close 0; length", "constant word red; length", f"{one}; unless 0", f"constant nothing; unless 0", f"{one}; sure",
                     f"{array}; sure", f"{one}; one not", f"{truth}; one -", f"{truth}; {one}; two +", f"{array}; {one}; two <"):
            self.check(body, "kind")

    def test_truths_are_no_numbers(self):
        self.check("constant number 4; array 1; constant truth false; item", "kind")
        self.check("constant number 4; array 1; constant truth false; constant number 1; setitem", "kind")
        self.check("constant truth true; constant number 1; many", "kind")

    def test_places(self):
        row = "constant number 7; constant number 8; array 2; "
        for place in (-1, 2, 10 ** 9, -10 ** 9):
            self.check(f"{row}constant number {place}; item", "place")
            self.check(f"{row}constant number {place}; constant nothing; setitem", "place")
        self.check("array 0; constant number 0; item", "place")
        self.assertEqual(self.outcome(main(row + "constant number 1; item; show; halt"), LIMITS, 9)[0], ("8",))

    def test_operations(self):
        self.check("constant number 1; constant number 0; two /", "divide")
        self.check("constant number 1000000000; constant number 1; two +", "range")

    def test_many(self):
        for n in (-1, 1001, 10 ** 9):
            self.check(f"constant number {n}; constant nothing; many", "range", (10 ** 6, 4, 1))
        for n in (0, 1, 1000):
            body = f"constant number {n}; constant nothing; many; length; show; halt"
            self.assertEqual(self.outcome(main(body), (1001, 4, 1), 9), ((str(n),), ("done",)))
        # The range is looked at ahead of the room, the kind ahead of the range.
        self.check("constant number 1001; constant nothing; many", "range", (0, 4, 1))
        self.check("constant number 1000; constant nothing; many", "room", (1000, 4, 1))
        self.check("constant truth true; constant nothing; many", "kind", (0, 4, 1))

    def test_calls(self):
        two = made("0 0 0: close 1; constant number 1; call 1; halt", "2 2 0: jump 0")
        self.check(two, "count")
        self.check(two, "count", (9, 4, 1))
        self.check(made("0 0 0: close 1; call 0; halt", "0 0 0: jump 0"), "deep", (9, 4, 1))
        self.check(made("0 0 0: array 0; call 0; halt", "0 0 0: jump 0"), "kind", (9, 4, 1))

    def test_deep(self):
        program = compiled_text("let down = fn (n) { if n == 0 { return 0; } return 1 + down(n - 1); }; show down(5);")
        self.assertEqual(self.outcome(program, (9, 4, 7), 999), (("5",), ("done",)))
        self.assertEqual(self.outcome(program, (9, 4, 6), 999), ((), ("failed", "deep")))
        self.assertEqual(self.outcome(program, (9, 4, 1), 999), ((), ("failed", "deep")))

    def test_kinds_ahead_of_places(self):
        self.check("constant number 1; constant number 9; item", "kind")
        self.check("array 0; constant truth true; constant number 9; setitem", "kind")


class RoomTest(OutcomeCase):
    def check(self, program, least, shown):
        """Whether a run ends well exactly if the room is not below the least one."""
        for room in range(least + 3):
            wanted = ((shown,), ("done",)) if room >= least else ((), ("failed", "room"))
            self.assertEqual(self.outcome(program, (room, 4, 9), 99), wanted, room)

    def test_array(self):
        self.check(main("array 0; length; show; halt"), 1, "0")
        self.check(main("constant number 1; constant number 1; array 2; length; show; halt"), 3, "2")
        # What is on the stack counts as live: two ARRAYS of one word, and three words.
        self.check(main("array 0; array 0; array 2; length; show; halt"), 5, "2")
        # What is not live any more does not count.
        self.check(main("array 0; pop; array 0; pop; array 0; length; show; halt"), 1, "0")

    def test_many(self):
        self.check(main("constant number 3; constant nothing; many; length; show; halt"), 4, "3")
        # v is live, though n is 0.
        self.check(main("constant number 0; array 0; many; length; show; halt"), 2, "0")

    def test_box(self):
        self.check(main("constant number 7; store 0; box 0; open 0; show; halt", 1), 2, "7")
        self.check(main("array 0; store 0; box 0; open 0; show; halt", 1), 3, "array 0")

    def test_close(self):
        self.check(made("0 0 0: close 1; show; halt", "0 0 0: jump 0"), 1, "function 0")
        self.check(made("0 1 0: constant number 7; store 0; box 0; close 1 slot 0 slot 0; show; halt", "0 0 2: jump 0"), 5,
                   "function 0")

    def test_a_function_is_live_while_it_runs(self):
        # The FUNCTION, of two words, and its CELL, of two, are held by the FRAME alone.
        program = made("0 1 0: constant number 5; store 0; box 0; close 1 slot 0; constant number 0; store 0; call 0; show; halt",
                       "0 0 1: array 0; pop; up 0; return")
        self.check(program, 5, "5")

    def test_rings(self):
        ring = "array 0; array 1; store 0; load 0; constant number 0; load 0; setitem; "
        self.check(main(ring + "constant nothing; store 0; array 0; array 1; array 1; length; show; halt", 1), 5, "1")
        self.check(main(ring + "array 0; array 1; length; show; halt", 1), 5, "1")

    def test_room_again_behind_a_lack(self):
        program = compiled_text('let a = [1, 2]; try { a = [3, a]; show 1; } catch e { show e; } a = 0; show len([1, 2]);')
        self.assertEqual(self.outcome(program, (5, 4, 1), 99), (("room", "2"), ("done",)))
        self.assertEqual(self.outcome(program, (6, 4, 1), 99), (("1", "2"), ("done",)))


class FailingTest(OutcomeCase):
    def test_over_several_frames(self):
        program = compiled_text("let f = fn (n) { if n == 0 { fail [1]; } f(n - 1); }; "
                                "try { let x = 5; f(3); show 1; } catch e { show len(e); } show 2;")
        self.assertEqual(self.outcome(program, LIMITS, 999), (("1", "2"), ("done",)))

    def test_a_guard_in_a_frame_between(self):
        program = compiled_text('let g = fn () { fail "a"; }; let f = fn () { try { g(); } catch e { show e; fail "b"; } }; '
                                'try { f(); } catch e { show e; }')
        self.assertEqual(self.outcome(program, LIMITS, 999), (("a", "b"), ("done",)))

    def test_the_stack_is_cut(self):
        program = main("constant number 1; constant number 2; guard 8; constant number 3; constant number 4; constant number 5; "
                       "constant nothing; fail; show; show; show; halt")
        state = ahead_of(program, 8)
        self.assertEqual(state[0], ((0, 8, (), (1, 2, None), None, ()),))
        self.assertEqual(self.outcome(program, LIMITS, 99), (("nothing", "2", "1"), ("done",)))

    def test_the_last_guard_is_gone_to(self):
        program = main("guard 6; guard 4; constant number 1; fail; constant number 2; fail; show; halt")
        self.assertEqual([own[0][-1][5] for own in states_along(program, LIMITS, 7)[:-1]],
                         [(), ((6, 0),), ((6, 0), (4, 0)), ((6, 0), (4, 0)), ((6, 0),), ((6, 0),), ()])
        self.assertEqual(self.outcome(program, LIMITS, 99), (("2",), ("done",)))

    def test_ends(self):
        for text, end in (("fail 1;", "1"), ("fail [1, 2];", "array 2"), ("fail fn (a) { };", "function 1"), ("fail nothing;", "nothing"),
                          ("let f = fn () { show 1; fail true; }; f();", "true"), ("show 1 / 0;", "divide")):
            program = compiled_text(text)
            states = states_along(program, LIMITS, 99)
            self.assertEqual((states[-1][0], states[-1][3]), ((), ("failed", end)))
            self.assertEqual(self.outcome(program, LIMITS, 99)[1], ("failed", end))
            self.assertEqual(told(stepped, program, states[-1], LIMITS), raised("Unfit"))

    def test_failing_keeps_slots(self):
        program = main("constant number 9; store 0; guard 5; constant number 1; fail; pop; load 0; show; halt", 1)
        self.assertEqual(self.outcome(program, LIMITS, 99), (("9",), ("done",)))


class FaultsTest(OutcomeCase):
    def check(self, program, place, code=0, limits=LIMITS):
        program = main(program, 1) if isinstance(program, str) else program
        wanted = raised("Fault", code=code, place=place)
        self.assertIs(is_taken(program), False, program)
        self.assertEqual(told(self.outcome, program, limits, 99), wanted, program)
        self.assertEqual(told(self.outcome, lists_of(program), list(limits), 99), wanted)
        self.assertEqual(told(states_along, program, limits, 99), wanted)
        most = 0
        while told(self.outcome, program, limits, most) != wanted:
            most += 1
        # Ahead of the Fault all is as if nothing were wrong.
        state = states_along(program, limits, most - 1)[-1]
        self.assertEqual(self.outcome(program, limits, most - 1)[1], ("going",))
        self.assertEqual(told(stepped, program, state, limits), wanted)
        self.assertEqual(told(stepped, lists_of(program), lists_of(state), list(limits)), wanted)

    def test_places(self):
        self.check("constant number 1", 1)
        self.check("jump 7", 7)
        self.check("constant truth false; unless 9; halt", 9)
        self.check("guard 8; constant number 1; fail", 8)
        self.check(made("0 0 0: close 1; call 0; halt", "0 0 0: jump 5"), 5, 1)

    def test_low_stacks(self):
        for word, off in (("store 0", 1), ("pop", 1), ("unless 0", 1), ("sure", 1), ("one -", 1), ("two +", 2), ("array 1", 1), ("array 3", 3),
                          ("many", 2), ("item", 2), ("setitem", 3), ("length", 1), ("show", 1), ("fail", 1), ("call 0", 1), ("call 2", 3)):
            for many in range(off):
                self.check("; ".join(["constant number 1"] * many + [word, "halt"]), many)
        self.check("constant number 1; store 0; box 0; fill 0; halt", 3)
        self.check(made("0 0 0: close 1; call 0; halt", "0 0 0: return"), 0, 1)

    def test_what_is_not_there(self):
        for word in ("load", "box", "open"):
            self.check(f"{word} 1; halt", 0)
        for word in ("store", "fill"):
            self.check(f"constant number 1; {word} 1; halt", 1)
        self.check("up 0; halt", 0)
        self.check("constant number 1; upfill 0; halt", 1)
        self.check("close 1; halt", 0)
        self.check(made("0 0 0: close 1 slot 0; halt", "0 0 1: jump 0"), 0)
        self.check(made("0 0 0: close 1 up 0; halt", "0 0 1: jump 0"), 0)
        self.check(made("0 1 0: constant number 1; store 0; box 0; close 1 slot 0; call 0; halt", "0 0 1: up 1; return"), 0, 1)
        self.check(made("0 1 0: constant number 1; store 0; box 0; close 1 slot 0; call 0; halt", "0 0 1: close 1 up 1; return"), 0, 1)

    def test_slots(self):
        self.check("load 0; halt", 0)
        self.check("box 0; halt", 0)
        self.check("open 0; halt", 0)
        self.check("constant number 1; fill 0; halt", 1)
        cell = "constant number 1; store 0; box 0; "
        self.check(cell + "load 0; halt", 3)
        self.check(cell + "box 0; halt", 3)
        self.check("array 0; store 0; open 0; halt", 2)
        self.check("constant number 1; store 0; constant number 1; fill 0; halt", 3)
        self.check(made("0 1 0: array 0; store 0; close 1 slot 0; halt", "0 0 1: jump 0"), 2)
        self.check(made("0 1 0: close 1 slot 0; halt", "0 0 1: jump 0"), 0)

    def test_takes(self):
        cell = "constant number 1; store 0; box 0; "
        for takes, cells in (("", 1), (" slot 0", 0), (" slot 0", 2), (" slot 0 slot 0", 1)):
            self.check(made(f"0 1 0: {cell}close 1{takes}; halt", f"0 0 {cells}: jump 0"), 3)

    def test_return_and_unguard(self):
        self.check("constant number 1; return", 1)
        self.check("unguard; halt", 0)
        self.check("guard 3; unguard; unguard; halt", 2)

    def test_guards_above_the_stack(self):
        self.check("constant number 1; constant number 1; guard 6; pop; pop; array 0; length; one not; halt", 7)
        self.check("constant number 1; constant number 1; guard 5; pop; fail; halt; halt", 4)
        self.check("constant number 1; constant number 1; guard 6; pop; pop; one -; halt", 5)
        # The stack as it was ahead of the INSTRUCTION is high enough.
        program = main("constant number 1; guard 3; fail; show; show; halt")
        self.assertEqual(told(self.outcome, program, LIMITS, 9), (("1", "1"), ("done",)))
        # The FRAME with the GUARD is another one than that of the INSTRUCTION that fails.
        self.check(made("0 0 0: constant number 1; constant number 1; guard 7; pop; pop; close 1; call 0; halt",
                        "0 0 0: constant number 2; fail"), 1, 1)
        self.check(made("0 0 0: constant number 1; constant number 1; guard 7; pop; pop; close 1; call 0; halt",
                        "0 0 0: constant number 2; sure; return"), 1, 1)

    def test_faults_ahead_of_lacks(self):
        none = (0, 4, 1)
        self.check("box 0; halt", 0, limits=none)
        self.check("array 1; halt", 0, limits=none)
        self.check("constant truth true; many; halt", 1, limits=none)
        self.check("close 5; halt", 0, limits=none)
        self.check(made("0 1 0: close 1 slot 0; halt", "0 0 1: jump 0"), 0, limits=none)
        self.check("constant number 1; call 1; halt", 1, limits=none)
        self.check("constant truth true; two +; halt", 1, limits=none)
        self.check("constant number 1; item; halt", 1, limits=none)
        self.check("constant number 1; constant number 1; setitem; halt", 2, limits=none)

    def test_not_all_that_is_refused_is_a_fault(self):
        # Code 0 can be closed and called, and return then; a halt ends the run in any CODE.
        program = made("0 1 0: array 0; pop; constant number 5; show; constant truth true; unless 8; jump 9; halt; halt; halt")
        self.assertEqual(self.outcome(program, LIMITS, 20), (("5",), ("done",)))
        program = main("constant number 1; show; close 0; call 0; return")
        self.assertIs(is_taken(program), False)
        self.assertEqual(self.outcome(program, (9, 4, 3), 99), (("1", "1", "1"), ("failed", "deep")))
        # Other heights may meet at a place.
        program = main("constant number 1; jump 0")
        self.assertEqual(self.outcome(program, LIMITS, 1001), ((), ("going",)))
        self.assertEqual(states_along(program, LIMITS, 9)[9][0][0][3], (1,) * 5)


class RunsTest(unittest.TestCase):
    def test_most(self):
        program = main("constant number 1; show; halt")
        self.assertEqual([run_plain(program, LIMITS, most) for most in range(5)],
                         [((), ("going",)), ((), ("going",)), (("1",), ("going",)), (("1",), ("done",)), (("1",), ("done",))])
        self.assertEqual([len(states_along(program, LIMITS, most)) for most in range(6)], [1, 2, 3, 4, 4, 4])
        self.assertEqual(states_along(program, LIMITS, 0), [begun(program)])
        self.assertEqual(states_along(most=9, limits=LIMITS, program=program), states_along(lists_of(program), [100, 4, 10], 9))
        self.assertEqual(run_plain(most=9, limits=LIMITS, program=program), (("1",), ("done",)))
        # A Fault behind most INSTRUCTIONS is not met.
        self.assertEqual(run_plain(main("constant number 1"), LIMITS, 1), ((), ("going",)))
        self.assertEqual(len(states_along(main("constant number 1"), LIMITS, 1)), 2)

    def test_results_are_tuples(self):
        states = states_along(lists_of(compiled_text("show [fn () { }];")), list(LIMITS), 99)
        self.assertIs(type(states), list)
        for state in states:
            self.assertEqual(repr(state), repr(tuple_of(state)))

    def test_nothing_is_changed(self):
        program = lists_of(compiled_text("let a = [1, 2]; a[0] = 5; let f = fn () { return a; }; show f()[0];"))
        before = repr(program)
        state = lists_of(begun(program))
        for _ in range(12):
            told_of = repr(state)
            following = stepped(program, state, LIMITS)
            self.assertEqual((repr(state), repr(program)), (told_of, before))
            state = lists_of(following)

    def test_long_runs(self):
        program = compiled_text("let f = fn (n) { if n < 1 { return 0; } return 1 + f(n - 1); }; "
                                "while true { let a = [1, 2, 3]; let b = fn () { return a; }; f(20); b()[0] = 5; }")
        self.assertEqual(run_plain(program, (40, 4, 60), 20000), ((), ("going",)))
        self.assertEqual(len(states_along(program, (40, 4, 60), 5000)), 5001)
        program = compiled_text("let a = many(500, 0); let i = 0; while true { a[i] = [i]; i = i + 1; if i == 500 { i = 0; } }")
        self.assertEqual(run_plain(program, (1503, 4, 60), 20000), ((), ("going",)))
        self.assertEqual(run_plain(program, (1502, 4, 60), 20000), ((), ("failed", "room")))


def tuple_of(value):
    return tuple(tuple_of(own) for own in value) if isinstance(value, (list, tuple)) else value


class LiveTest(unittest.TestCase):
    def state(self, frames, objects, shown=(), end=None):
        return (tuple((0, 0, slots, stack, function, ()) for slots, stack, function in frames), objects, shown, end)

    def check(self, state, numbers, words, wanted):
        for own in (state, lists_of(state)):
            self.assertEqual(live(own), numbers)
            self.assertEqual(live_words(own), words)
            self.assertEqual(canon(own), wanted)
        self.assertEqual((live(state=state), live_words(state=state), canon(state=state)), (numbers, words, wanted))
        self.assertEqual(canon(wanted), wanted)

    def test_rings(self):
        ring = (("array", (("@", 1), 5)), ("cell", ("@", 0)), ("cell", ("@", 2)))
        self.check(self.state([((), (), None)], ring), (), 0, self.state([((), (), None)], ()))
        self.check(self.state([((("@", 1),), (), None)], ring), (0, 1), 5,
                   self.state([((("@", 0),), (), None)], (("cell", ("@", 1)), ("array", (("@", 0), 5)))))
        self.check(self.state([((("@", 2), ()), (), None)], ring), (2,), 2, self.state([((("@", 0), ()), (), None)], (("cell", ("@", 0)),)))

    def test_what_a_function_holds(self):
        objects = (("array", ()), ("cell", ("@", 0)), ("function", 1, (("@", 3), ("@", 1))), ("cell", 1))
        self.check(self.state([((), (), None), ((), (), ("@", 2))], objects), (0, 1, 2, 3), 8,
                   self.state([((), (), None), ((), (), ("@", 0))],
                              (("function", 1, (("@", 1), ("@", 2))), ("cell", 1), ("cell", ("@", 3)), ("array", ()))))

    def test_order(self):
        # Slots, stack, FUNCTION, FRAME by FRAME, each once; then OBJECT by OBJECT.
        objects = tuple(("cell", ("@", own)) for own in (7, 6, 6, 5, 0, 1, 2, 3))
        frames = [((("@", 3), (), 5), (("@", 4), ("@", 3)), None), ((("@", 2),), (True, ("@", 3)), ("@", 4))]
        self.check(self.state(frames, objects), tuple(range(8)), 16,
                   self.state([((("@", 0), (), 5), (("@", 1), ("@", 0)), None), ((("@", 2),), (True, ("@", 0)), ("@", 1))],
                              (("cell", ("@", 3)), ("cell", ("@", 4)), ("cell", ("@", 5)), ("cell", ("@", 6)), ("cell", ("@", 7)),
                               ("cell", ("@", 2)), ("cell", ("@", 5)), ("cell", ("@", 0)))))

    def test_ended(self):
        self.check(((), (("array", ()), ("cell", ("@", 0))), ("a",), ("done",)), (), 0, ((), (), ("a",), ("done",)))
        self.check(((), (), (), ("failed", "kind")), (), 0, ((), (), (), ("failed", "kind")))

    def test_long_chains(self):
        objects = tuple(("cell", ("@", own + 1)) for own in range(4999)) + (("cell", None),)
        state = self.state([((("@", 0),), (), None)], objects)
        self.assertEqual(live_words(state), 10000)
        self.assertEqual(canon(state), state)


class RandomTest(unittest.TestCase):
    def programs(self):
        for seed in range(250):
            yield from (grown_program(seed), grown_program(seed, 20), shaped_program(seed), bent_program(seed))

    def test_as_a_second_machine_does(self):
        ends = {}
        for program in self.programs():
            for limits in ((20, 4, 5), (3, 4, 2), (100, 4, 30)):
                wanted = Plain(program, limits).run(100)
                fault = wanted.pop() if len(wanted[-1]) == 2 else None
                self.assertEqual(repr(states_along(program, limits, len(wanted) - 1)), repr(wanted))
                end = wanted[-1][3]
                ends["fault" if fault else end] = ends.get("fault" if fault else end, 0) + 1
                if fault:
                    self.assertEqual(told(run_plain, program, limits, 100), raised("Fault", code=fault[0], place=fault[1]))
                    self.assertIs(is_taken(program), False)
                else:
                    self.assertEqual(run_plain(program, limits, 100), (wanted[-1][2], end if end else ("going",)))
        for end in ("fault", None, ("done",), ("failed", "room"), ("failed", "kind"), ("failed", "place"), ("failed", "range")):
            self.assertGreater(ends[end], 10, end)

    def test_states(self):
        for program in [*self.programs()][::5]:
            limits = (25, 4, 5)
            if not is_taken(program):
                continue
            states = states_along(program, limits, 60)
            for at, state in enumerate(states):
                order = reached([dict(slots=own[2], stack=own[3], function=own[4]) for own in state[0]], state[1])
                self.assertEqual(live(state), tuple(sorted(order)))
                self.assertEqual(live_words(state), sum(words_of(state[1][own]) for own in order))
                short = canon(state)
                self.assertEqual(len(short[1]), len(order))
                self.assertEqual(canon(short), short)
                if at + 1 < len(states):
                    self.assertEqual(stepped(program, state, limits), states[at + 1])
                    self.assertEqual(canon(stepped(program, short, limits)), canon(states[at + 1]))

    def test_more_room(self):
        for seed in range(100):
            program = compiled_program(seed)
            for room in (4, 12, 40):
                plain = Plain(program, (room, 4, 10))
                plain.run(400)
                if not plain.refused:
                    self.assertEqual(run_plain(program, (room, 4, 10), 400), run_plain(program, (1000, 4, 10), 400))

    def test_the_meaning_of_trees(self):
        for seed in range(300, 600):
            tree = random_program(seed, 3)
            outcome = meaning_of(tree, 1000)
            if outcome[1] != ("going",):
                self.assertEqual(run_plain(compiled(tree), (10 ** 6, 4, 10 ** 6), 20000), outcome)


if __name__ == "__main__":
    unittest.main()
