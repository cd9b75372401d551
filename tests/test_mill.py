"""Section 18 of the document: mill.py."""

import random
import unittest

from gathermill.checker import is_taken
from gathermill.compiler import compiled_text
from gathermill.holds import breaches, has_form, is_tight, reached_words
from gathermill.machine import canon, live_words, run_plain, states_along
from gathermill.major import collected, whole
from gathermill.memory import is_memory, memory_begun, object_at, objects_in, used_words
from gathermill.mill import is_mill, mill_begun, mill_stepped, mills_along, roots_of, run_mill, with_roots
from gathermill.sights import sight
from tests import test_machine
from tests.examples_of_document import check_file
from tests.programs import STRANGE, lists_of, made, main, nested, raised, told
from tests.random_codes import bent_program, compiled_program, grown_program, shaped_program
from tests.reference_memory import with_parts
from tests.reference_mill import MillBender, breaches_plainly, has_form_plainly, mills_plainly, told_fault
from tests.test_memory import CALM, GOES

SCHEDULES = ((0,), (1,), (50,), (3, 0, 0, 1), (0,) * 200)
# PROGRAMS that make many OBJECTS, most of which are soon dead.
BUSY = [compiled_text(text) for text in (
    "let l = nothing; let i = 0; while i < 40 { l = [i, l]; i = i + 1; if i ~ 7 == 0 { l = nothing; } } show i;",
    "let make = fn (n) { let c = n; return fn (k) { c = c + k; return c; }; }; let i = 0; let s = 0; "
    "while i < 12 { let f = make(i); s = s + f(2) + f(3); i = i + 1; } show s;",
    "let a = many(5, 0); let i = 0; while i < 30 { a[i ~ 5] = [a[(i + 1) ~ 5], i]; if i ~ 6 == 5 { a[2] = 0; a[4] = 0; a[1] = 7; } i = i + 1; } "
    "show len(a); show a[0];",
    "let down = fn (n, l) { if n == 0 { return l; } let r = down(n - 1, [n, l]); return [r]; }; let i = 0; "
    "while i < 4 { try { show len(down(i * 3, nothing)); } catch e { show e; } i = i + 1; }",
    "let ring = fn (n) { let a = [0, n]; let b = [a, n]; a[0] = b; return a; }; let i = 0; let r = 0; "
    "while i < 15 { r = ring(i); r = r[0][0]; i = i + 1; } show r[1];",
    "let big = fn (n) { return many(n, n); }; let i = 0; let k = 0; while i < 20 { try { k = big(i); } catch e { show e; } show len(k); i = i + 1; }",
)]


def ahead_of(program, place, limits, schedule, code=0):
    """The pair (turn, MILL) ahead of the first INSTRUCTION that is done at this place."""
    for at, mill in enumerate(mills_along(program, limits, schedule, 300)):
        if mill[0] and mill[0][-1][:2] == (code, place):
            return at, mill
    return None


class OnTheMill:
    """Has the OUTCOMES of the mill told where tests ask for those of the plain machine."""

    def outcome(self, program, limits, most):
        wanted = told(run_plain, program, limits, most)
        schedules = SCHEDULES if limits[0] <= 5000 else ((2, 0),)
        for nursery in (limits[1], 13):
            for schedule in schedules:
                comes = told(run_mill, program, (limits[0], nursery, limits[2]), schedule, most)
                self.assertEqual(comes, wanted, (program, limits, schedule))
        return run_mill(program, limits, [0, 2], most)


class LacksTest(OnTheMill, test_machine.LacksTest):
    pass


class RoomTest(OnTheMill, test_machine.RoomTest):
    pass


class FailingTest(OnTheMill, test_machine.FailingTest):
    pass


class FaultsTest(OnTheMill, test_machine.FaultsTest):
    def check(self, program, place, code=0, limits=test_machine.LIMITS):
        super().check(program, place, code, limits)
        program = main(program, 1) if isinstance(program, str) else program
        wanted = raised("Fault", code=code, place=place)
        for schedule in SCHEDULES:
            self.assertEqual(told(mills_along, program, limits, schedule, 99), wanted)
            self.assertEqual(told(mills_along, lists_of(program), list(limits), list(schedule), 99), wanted)
        most = len(states_until(program, limits, 99)) - 1
        mill = mills_along(program, limits, (1,), most)[-1]
        for steps in (0, 1, 20):
            self.assertEqual(told(mill_stepped, program, mill, limits, steps), wanted)
            self.assertEqual(told(mill_stepped, lists_of(program), lists_of(mill), list(limits), steps), wanted)


def states_until(program, limits, most):
    """The STATES of a plain run, at most most and none behind a Fault."""
    while not isinstance(told(states_along, program, limits, most), list):
        most -= 1
    return states_along(program, limits, most)


class DoingTest(test_machine.DoingTest):
    """What each word does: the mill's SIGHT is the plain STATE, whatever collections come in between."""

    def step(self, program, place, limits=test_machine.LIMITS, code=0):
        told_plain = super().step(program, place, limits, code)
        for room in (limits[0], 30):
            for schedule in SCHEDULES:
                own = (room, *limits[1:])
                at, mill = ahead_of(program, place, own, schedule, code)
                steps = schedule[at % len(schedule)]
                behind = mill_stepped(program, mill, own, steps)
                self.assertEqual(repr(mill_stepped(lists_of(program), lists_of(mill), list(own), steps)), repr(behind))
                self.assertEqual(mill_stepped(steps=steps, limits=own, mill=mill, program=program), behind)
                state = states_along(program, own, at + 1)[at + 1]
                self.assertEqual(repr(sight(behind)), repr(canon(state)))
                self.assertIs(is_mill(behind), True)
        return told_plain


class ReadyTest(unittest.TestCase):
    """How OBJECTS are made ready."""

    def check(self, body, slots, place, room, nursery, wanted, schedule=(0,)):
        """What young, half, free, scan and left are behind the INSTRUCTION at a place, or the lack."""
        program = main(body, slots) if isinstance(body, str) else body
        limits = (room, nursery, 3)
        at, mill = ahead_of(program, place, limits, schedule)
        behind = mill_stepped(program, mill, limits, schedule[at % len(schedule)])
        self.assertEqual(behind[3] or behind[1][3:8], wanted)
        self.assertIs(is_memory(behind[1]), True)
        return behind

    def test_just_enough_words(self):
        self.check("array 0; halt", 0, 0, 1, 4, (1, 0, 4, None, 0))
        self.check("array 0; halt", 0, 0, 0, 4, ("failed", "room"))
        self.check("constant number 1; array 1; halt", 0, 1, 2, 4, (2, 0, 4, None, 0))
        self.check("constant number 1; array 1; halt", 0, 1, 1, 4, ("failed", "room"))
        self.check("constant number 1; store 0; box 0; halt", 1, 2, 2, 4, (2, 0, 4, None, 0))
        self.check("constant number 1; store 0; box 0; halt", 1, 2, 1, 4, ("failed", "room"))
        self.check("constant number 2; constant number 1; many; halt", 0, 2, 3, 4, (3, 0, 4, None, 0))
        self.check("constant number 2; constant number 1; many; halt", 0, 2, 2, 4, ("failed", "room"))
        close = made("0 1 0: constant number 1; store 0; box 0; close 1 slot 0; halt", "0 0 1: jump 0")
        self.check(close, 1, 3, 4, 4, (4, 0, 4, None, 0))
        self.check(close, 1, 3, 3, 4, ("failed", "room"))

    def test_greater_than_the_nursery_and_as_great_as_it(self):
        for many, wanted in ((2, (3, 0, 4, None, 0)), (3, (4, 0, 4, None, 0)), (4, (0, 0, 9, None, 0)), (5, (0, 0, 10, None, 0))):
            self.check(f"constant number {many}; constant nothing; many; halt", 0, 2, 6, 4, wanted)
            row = "; ".join(["constant nothing"] * many)
            self.check(f"{row}; array {many}; halt", 0, many, 6, 4, wanted)
        takes = made("0 1 0: constant number 1; store 0; box 0; close 1 slot 0 slot 0 slot 0 slot 0; halt", "0 0 4: jump 0")
        behind = self.check(takes, 1, 3, 7, 4, (2, 0, 9, None, 0))
        self.assertEqual((behind[1][8], object_at(behind[1], 4)), ((5, 6, 7, 8), ("function", 1, (("@", 0),) * 4)))

    def test_greater_than_what_is_free_in_the_nursery(self):
        # Three of four words are taken by a live ARRAY, which is moved.
        behind = self.check("constant number 7; constant number 8; array 2; array 0; array 0; halt", 0, 3, 9, 4, (4, 0, 4, None, 0))
        behind = self.check("constant number 7; constant number 8; array 2; array 0; array 0; halt", 0, 4, 9, 4, (1, 0, 8, None, 0))
        self.assertEqual(behind[0][0][3], (("@", 4), ("@", 7), ("@", 0)))
        # By a dead one, which is not.
        behind = self.check("constant number 7; constant number 8; array 2; pop; constant number 5; array 1; halt", 0, 5, 9, 4, (2, 0, 4, None, 0))
        # What is greater than the nursery leaves it as it is.
        behind = self.check("array 0; constant number 4; constant nothing; many; halt", 0, 3, 9, 4, (1, 0, 9, None, 0))
        self.assertEqual(behind[0][0][3], (("@", 0), ("@", 4)))

    def test_the_nursery_is_emptied_amid_a_collection(self):
        body = ("constant number 7; array 1; store 0; constant number 1; constant number 2; constant number 3; array 3; array 0; "
                "array 0; constant number 1; constant number 2; array 2; array 0; halt")
        behind = self.check(body, 1, 12, 30, 4, (1, 1, 45, 34, 0), (0,) * 8 + (1,) + (0,) * 9)
        self.assertEqual(behind[0][0][2:4], ((("@", 34),), (("@", 36), ("@", 40), ("@", 41), ("@", 42), ("@", 0))))

    def test_dead_words_make_place(self):
        # Room 5: three words are dead, one is live, and two are asked for.
        body = "constant number 7; constant number 8; array 2; pop; array 0; constant number 5; array 1; halt"
        behind = self.check(body, 0, 6, 5, 4, (2, 1, 10, None, 0))
        self.assertEqual(behind[0][0][3], (("@", 9), ("@", 0)))
        # With one word less nothing helps.
        program = main("array 0; constant number 7; array 1; pop; constant number 8; array 1; array 0; halt")
        for room, end in ((4, ("done",)), (3, ("failed", "room"))):
            for schedule in SCHEDULES:
                self.assertEqual(run_mill(program, (room, 4, 1), schedule, 20), ((), end))
        # The words that are used but dead are more than what lacks.
        program = main("constant number 9; constant nothing; many; pop; constant number 3; constant nothing; many; halt")
        mills = mills_along(program, (10, 4, 1), (0,), 9)
        self.assertEqual([used_words(own[1]) for own in mills], [0, 0, 0, 10, 10, 10, 10, 4, 4])

    def test_just_as_many_as_lack(self):
        # What is used and dead is just what lacks; a whole collection is only done if it must be.
        body = "constant number 1; array 1; pop; constant number 2; array 1; constant number 3; array 1; halt"
        self.check(body, 0, 6, 6, 12, (6, 0, 12, None, 0))
        self.check(body, 0, 6, 5, 12, (2, 1, 19, None, 0))
        self.check(body, 0, 6, 4, 12, (2, 1, 18, None, 0))
        self.check(body, 0, 6, 3, 12, ("failed", "room"))

    def test_behind_the_lack_used_words_are_live_words(self):
        program = compiled_text("let a = [1, 2]; let b = [3, 4]; b = 0; try { a = [5, 6, 7, 8, 9, a]; } catch e { show e; } show len(a);")
        for schedule in SCHEDULES:
            mills = mills_along(program, (8, 4, 1), schedule, 99)
            at = next(own for own, mill in enumerate(mills) if mill[0] and mill[0][0][3] == ("room",))
            self.assertEqual((used_words(mills[at][1]), mills[at][1][6], reached_words(mills[at])), (3, None, 3))
            self.assertIs(is_tight(mills[at]), True)
            self.assertEqual(mills[-1][2:], (("room", "2"), ("done",)))

    def test_what_is_on_the_stack_is_moved(self):
        program = main("constant number 7; array 1; constant number 8; array 1; constant number 5; array 3; store 0; load 0; constant number 0; "
                       "item; constant number 0; item; show; load 0; constant number 1; item; constant number 0; item; show; halt", 1)
        for room, nursery in ((8, 4), (8, 8), (9, 5), (20, 4)):
            for schedule in SCHEDULES:
                self.assertEqual(run_mill(program, (room, nursery, 1), schedule, 50), (("7", "8"), ("done",)))

    def test_what_many_takes_is_moved(self):
        # v lies in the nursery, which is emptied ahead of the ARRAY of its REFERENCES.
        program = main("constant number 2; constant number 7; array 1; many; halt")
        behind = mills_along(program, (5, 4, 1), (0,), 9)[4]
        self.assertEqual((behind[0][0][3], object_at(behind[1], 0)), ((("@", 0),), ("array", (("@", 4), ("@", 4)))))
        # With n too great there is the lack ahead of it, and nothing is moved.
        program = main("constant number 1001; constant number 7; array 1; many; halt")
        mill = mills_along(program, (5, 4, 1), (0,), 9)[3]
        self.assertEqual(mill_stepped(program, mill, (5, 4, 1), 0)[1], mill[1])

    def test_what_is_boxed_is_moved(self):
        program = main("constant number 7; constant number 8; array 2; store 0; box 0; open 0; constant number 1; item; show; halt", 1)
        behind = mills_along(program, (5, 4, 1), (0,), 5)[5]
        self.assertEqual((behind[0][0][2], object_at(behind[1], 0), object_at(behind[1], 4)),
                         ((("@", 0),), ("cell", ("@", 4)), ("array", (7, 8))))
        for schedule in SCHEDULES:
            self.assertEqual(run_mill(program, (5, 4, 1), schedule, 20), (("8",), ("done",)))

    def test_what_close_takes_is_moved(self):
        program = made("0 2 0: constant number 7; store 0; box 0; constant number 8; store 1; box 1; close 1 slot 1 slot 0; call 0; call 0; show; halt",
                       "0 1 2: constant number 9; store 0; box 0; close 2 up 1 slot 0 up 0; return",
                       "0 0 3: up 0; up 1; two *; up 2; two -; return")
        for room in (13, 14, 20):
            for nursery in (4, 5, 9):
                for schedule in SCHEDULES:
                    self.assertEqual(run_mill(program, (room, nursery, 2), schedule, 99), (("55",), ("done",)))
        self.assertEqual(run_mill(program, (12, 4, 2), (0,), 99), ((), ("failed", "room")))

    def test_cells_are_fetched_behind_the_making_ready(self):
        # A collection goes on; close reads up 0 and up 1 of a FUNCTION that is moved but not gone over, in the order of takes.
        program = made("0 2 0: constant number 7; store 0; box 0; constant number 8; store 1; box 1; close 1 slot 0 slot 1; "
                       "constant nothing; store 0; constant nothing; store 1; call 0; halt", "0 0 2: close 2 up 1 up 0; halt", "0 0 2: jump 0")
        at, mill = ahead_of(program, 0, (40, 8, 2), (0,), 1)
        goes = mill_stepped(program, mill, (40, 8, 2), 1)
        self.assertEqual(goes[1][3:8], (3, 1, 55, 48, 0))
        self.assertEqual(object_at(goes[1], 48), ("function", 1, (("@", 53), ("@", 51))))
        self.assertEqual(object_at(goes[1], 0), ("function", 2, (("@", 51), ("@", 53))))
        self.assertEqual([object_at(goes[1], own) for own in (51, 53)], [("cell", 8), ("cell", 7)])


class UnmendedTest(unittest.TestCase):
    """A collection goes on, and INSTRUCTIONS reach what still leads there."""

    def check(self, program, place, code=0, steps=1):
        """The MILL behind the INSTRUCTION at a place ahead of which a collection begins."""
        limits = (60, 16, 3)
        at, mill = ahead_of(program, place, limits, (0,), code)
        self.assertEqual(mill[1][6], None)
        behind = mill_stepped(program, mill, limits, steps)
        self.assertIsNotNone(behind[1][6])
        self.assertIs(is_memory(behind[1]), True)
        self.assertEqual(sight(behind), canon(states_along(program, limits, at + 1)[-1]))
        return behind

    def test_open(self):
        program = main("constant number 7; array 1; store 0; box 0; open 0; halt", 1)
        behind = self.check(program, 4)
        self.assertEqual((behind[0][0][2:4], behind[1][5:8]), (((("@", 76),), (("@", 78),)), (80, 76, 0)))
        self.assertEqual(object_at(behind[1], 76), ("cell", ("@", 78)))

    def test_item(self):
        program = main("constant number 7; array 1; array 1; store 0; load 0; constant number 0; item; halt", 1)
        behind = self.check(program, 6)
        self.assertEqual((behind[0][0][2:4], object_at(behind[1], 76), behind[1][7]), (((("@", 76),), (("@", 78),)), ("array", (("@", 78),)), 0))

    def test_up_and_upfill(self):
        text = "0 1 0: constant number 7; array 1; store 0; box 0; close 1 slot 0; call 0; halt"
        behind = self.check(made(text, "0 0 1: up 0; halt"), 0, 1)
        # The root is the CELL in the slot of main, then the FUNCTION; the FUNCTION's word leads to the CELL moved already.
        self.assertEqual(behind[0][1][3:5], ((("@", 80),), ("@", 78)))
        self.assertEqual([object_at(behind[1], own) for own in (76, 78, 80)], [("cell", ("@", 80)), ("function", 1, (("@", 76),)), ("array", (7,))])
        behind = self.check(made(text, "0 0 1: constant number 9; upfill 0; halt"), 1, 1)
        self.assertEqual([object_at(behind[1], own) for own in (76, 78)], [("cell", 9), ("function", 1, (("@", 76),))])
        # Nothing but the FUNCTION leads to the CELL.
        text = "0 1 0: constant number 7; array 1; store 0; box 0; close 1 slot 0; constant nothing; store 0; call 0; halt"
        behind = self.check(made(text, "0 0 1: up 0; halt"), 0, 1)
        self.assertEqual(behind[0][1][3:5], ((("@", 80),), ("@", 76)))
        behind = self.check(made(text, "0 0 1: constant number 9; upfill 0; halt"), 1, 1)
        self.assertEqual([object_at(behind[1], own) for own in (76, 78)], [("function", 1, (("@", 78),)), ("cell", 9)])

    def test_close(self):
        program = made("0 1 0: constant number 7; store 0; box 0; close 1 slot 0; constant nothing; store 0; call 0; halt", "0 0 1: close 2 up 0; halt", "0 0 1: jump 0")
        behind = self.check(program, 0, 1)
        self.assertEqual([object_at(behind[1], own) for own in (0, 76, 78)], [("function", 2, (("@", 78),)), ("function", 1, (("@", 78),)), ("cell", 7)])

    def test_setitem_and_fill(self):
        program = main("constant number 7; array 1; array 1; store 0; load 0; constant number 0; constant number 5; setitem; halt", 1)
        behind = self.check(program, 7)
        # The ARRAY that was there is not moved, and is still counted.
        self.assertEqual((object_at(behind[1], 76), behind[1][7], behind[1][5]), (("array", (5,)), 2, 78))
        program = main("constant number 7; array 1; store 0; box 0; array 0; fill 0; halt", 1)
        behind = self.check(program, 5)
        self.assertEqual((object_at(behind[1], 76), object_at(behind[1], 78), behind[1][7]), (("cell", ("@", 78)), ("array", ()), 2))

    def test_what_is_new_is_written_into_what_is_moved(self):
        program = main("array 0; array 1; store 0; load 0; constant number 0; array 0; setitem; load 0; constant number 0; item; length; show; halt", 1)
        limits = (60, 16, 3)
        at, mill = ahead_of(program, 5, limits, (0,))
        mill = mill_stepped(program, mill, limits, 1)
        mill = mill_stepped(program, mill, limits, 0)
        self.assertEqual((mill[1][8], object_at(mill[1], 76)), ((77,), ("array", (("@", 0),))))
        # Then the word is gone over.
        mill = mill_stepped(program, mill, limits, 3)
        self.assertEqual((mill[1][8], mill[1][6:8], object_at(mill[1], 76)), ((77,), (None, 0), ("array", (("@", 0),))))
        self.assertEqual(run_mill(program, limits, (0, 0, 0, 0, 0, 1, 0), 50), (("0",), ("done",)))


class RunTest(unittest.TestCase):
    program = compiled_text("let l = [1]; l = [l, 2]; l = [l, 3]; show len(l[0][0]); l = 0; show [5];")

    def test_examples(self):
        check_file(self, "18")

    def test_begun(self):
        for program, limits in ((self.program, (9, 4, 1)), (main("halt", 3), (0, 7, 60)), (main("halt"), (2000, 500, 1))):
            mill = mill_begun(program, limits)
            self.assertEqual(mill, (((0, 0, ((),) * program[0][1], (), None, ()),), memory_begun(*limits[:2]), (), None))
            self.assertEqual(mill_begun(limits=list(limits), program=lists_of(program)), mill)
            self.assertIs(is_mill(mill), True)

    def test_most(self):
        limits = (20, 4, 1)
        mills = mills_along(self.program, limits, (1, 0, 2), 999)
        for most in range(len(mills) + 3):
            some = mills_along(self.program, limits, (1, 0, 2), most)
            self.assertEqual(some, mills[:most + 1])
            self.assertIs(type(some), list)
            end = run_mill(self.program, limits, (1, 0, 2), most)
            self.assertEqual(end, (some[-1][2], some[-1][3] or ("going",)))
        self.assertEqual(mills[-1][2:], (("1", "array 1"), ("done",)))
        self.assertEqual(mills_along(self.program, limits, (5,), 0), [mill_begun(self.program, limits)])
        self.assertEqual(run_mill(self.program, limits, (5,), 0), ((), ("going",)))
        self.assertEqual(run_mill(most=999, schedule=[1, 0, 2], limits=list(limits), program=lists_of(self.program)), mills[-1][2:])
        self.assertEqual(mills_along(most=999, schedule=[1, 0, 2], limits=list(limits), program=lists_of(self.program)), mills)
        # A Fault behind most turns is not met.
        self.assertEqual(run_mill(main("constant number 1"), (1, 4, 1), (9,), 1), ((), ("going",)))
        self.assertEqual(len(mills_along(main("constant number 1"), (1, 4, 1), (9,), 1)), 2)

    def test_schedules(self):
        limits = (20, 4, 1)
        plain = run_plain(self.program, limits, 999)
        long = tuple(range(40)) * 3
        for schedule in (*SCHEDULES, long, (1000,), (10 ** 5, 0, 0), (0, 50), (2,) * 999):
            self.assertEqual(run_mill(self.program, limits, schedule, 999), plain)
        # The k-th number tells the steps ahead of the INSTRUCTION that is done as the k-th one.
        mills = mills_along(self.program, limits, (0, 0, 3), 9)
        self.assertEqual([own[1][6] is None for own in mills], [True] * 3 + [False] * 7)
        memory, roots = collected(*collected(*collected(mills[2][1], roots_of(mills[2][0]))))
        self.assertEqual((mills[3][1], mills[3][0][0][2]), (memory, (roots[-2],)))
        for at, mill in enumerate(mills[:-1]):
            self.assertEqual(mill_stepped(self.program, mill, limits, (0, 0, 3)[at % 3]), mills[at + 1])

    def test_steps_come_ahead_of_the_instruction(self):
        program = main("constant number 1; array 1; halt")
        mill = mills_along(program, (9, 4, 1), (0,), 1)[1]
        self.assertEqual(mill_stepped(program, mill, (9, 4, 1), 1)[1][3:8], (2, 1, 13, 13, 0))
        self.assertEqual(mill_stepped(program, mill, (9, 4, 1), 2)[1][3:8], (2, 1, 13, None, 0))
        self.assertEqual(mill_stepped(program, mill, (9, 4, 1), 3)[1][3:8], (2, 0, 4, 4, 0))

    def test_unfit(self):
        for end in (("done",), ("failed", "kind"), ("failed", "array 0")):
            mill = ((), memory_begun(9, 4), ("1",), end)
            for steps in (0, 3):
                self.assertEqual(told(mill_stepped, self.program, mill, (9, 4, 1), steps), raised("Unfit"))
                self.assertEqual(told(mill_stepped, lists_of(self.program), lists_of(mill), [9, 4, 1], steps), raised("Unfit"))
        last = mills_along(self.program, (20, 4, 1), (2,), 999)[-1]
        self.assertEqual(told(mill_stepped, self.program, last, (20, 4, 1), 1), raised("Unfit"))

    def test_what_an_end_leaves(self):
        # The FRAMES are gone; what is in the memory stays.
        mills = mills_along(main("array 0; store 0; halt", 1), (9, 4, 1), (0,), 9)
        self.assertEqual(mills[-1], ((), mills[-2][1], (), ("done",)))
        self.assertEqual(objects_in(mills[-1][1]), (0,))
        mills = mills_along(main("array 0; fail"), (9, 4, 1), (0,), 9)
        self.assertEqual(mills[-1], ((), mills[-2][1], (), ("failed", "array 0")))

    def test_nothing_is_changed(self):
        program = lists_of(self.program)
        mill = lists_of(mill_begun(self.program, (20, 4, 1)))
        for _ in range(12):
            before = repr((program, mill))
            following = mill_stepped(program, mill, [20, 4, 1], 2)
            self.assertEqual(repr((program, mill)), before)
            self.assertNotIn("[", repr(following))
            mill = lists_of(following)
        self.assertNotIn("[", repr(mills_along(program, [20, 4, 1], [1], 30)[5:])[1:-1])

    def test_long_runs(self):
        for program in (compiled_text("let f = fn (n) { if n < 1 { return 0; } return 1 + f(n - 1); }; "
                                      "while true { let a = [1, 2, 3]; let b = fn () { return a; }; f(20); b()[0] = 5; }"),
                        compiled_text("let a = many(500, 0); let i = 0; while true { a[i] = [i]; i = i + 1; if i == 500 { i = 0; } }")):
            for room, nursery, schedule in ((2000, 500, (50, 0, 7)), (1503, 4, (1,)), (40, 4, (0,)), (1502, 300, tuple(range(40)))):
                limits = (room, nursery, 60)
                self.assertEqual(run_mill(program, limits, schedule, 20000), run_plain(program, limits, 20000))


class RootsTest(unittest.TestCase):
    frames = ((0, 3, (("@", 0), (), 7), (("@", 3), None), None, ((5, 1),)), (2, 0, (), (), ("@", 6), ()), (1, 9, ((), True), ("red",), ("@", 0), ()))

    def test_roots(self):
        roots = (("@", 0), (), 7, ("@", 3), None, None, ("@", 6), (), True, "red", ("@", 0))
        self.assertEqual(repr(roots_of(self.frames)), repr(roots))
        self.assertEqual(repr(roots_of(frames=lists_of(self.frames))), repr(roots))
        self.assertEqual(with_roots(self.frames, roots), self.frames)
        self.assertEqual(roots_of(()), ())
        self.assertEqual(with_roots((), ()), ())
        self.assertEqual(with_roots([], []), ())

    def test_other_roots(self):
        roots = tuple(range(11))
        wanted = ((0, 3, (0, 1, 2), (3, 4), 5, ((5, 1),)), (2, 0, (), (), 6, ()), (1, 9, (7, 8), (9,), 10, ()))
        self.assertEqual(with_roots(self.frames, roots), wanted)
        self.assertEqual(with_roots(roots=list(roots), frames=lists_of(self.frames)), wanted)
        wanted = ((0, 3, ((), (), ("@", 1)), ((), ()), None, ((5, 1),)), (2, 0, (), (), (), ()), (1, 9, ((), ()), ((),), None, ()))
        for roots in (((), (), ("@", 1), (), (), None, (), (), (), (), None), [[], [], ["@", 1], [], [], None, [], [], [], [], None]):
            self.assertEqual(repr(with_roots(self.frames, roots)), repr(wanted))

    def test_unfit(self):
        for roots in ((), tuple(range(10)), tuple(range(12)), (None,) * 22):
            self.assertEqual(told(with_roots, self.frames, roots), raised("Unfit"))
            self.assertEqual(told(with_roots, lists_of(self.frames), list(roots)), raised("Unfit"))
        self.assertEqual(told(with_roots, (), (None,)), raised("Unfit"))


class FormTest(unittest.TestCase):
    """is_mill: a MILL of which one part is turned."""

    frame = (0, 3, (("@", 0), (), 7), (("@", 3), None), None, ((5, 1),))
    mill = ((frame, (2, 0, (), (True, "red"), ("@", 6), ())), CALM, ("1", "array 2"), None)

    def check(self, wanted, **parts):
        own = dict(zip(("frames", "memory", "shown", "end"), self.mill))
        self.assertIs(is_mill(tuple({**own, **parts}.values())), wanted, parts)

    def test_good_ones(self):
        self.check(True)
        self.assertIs(is_mill(thing=self.mill), True)
        self.assertIs(is_mill(mill_begun(main("halt"), (0, 4, 1))), True)

    def test_frames(self):
        self.check(False, frames=())
        self.check(False, frames=[self.frame])
        self.check(False, frames=self.frame)
        self.check(False, frames=None)
        for at, good, wrong in (
            (0, (0, 1, 10 ** 30), (-1, True, None, "0", (), 1.0)),
            (1, (0, 1, 10 ** 30), (-1, True, None, "0", (), 1.0)),
            (2, ((), ((),), (("@", 0), ("@", 11)), (None, True, "red", 10 ** 9)), ([], None, (10 ** 10,), ((1,),), ([],), (("@", 1),), (("@", 18),), ("Red",))),
            (3, ((), (("@", 8), 5), ("a",)), ([], None, ((),), ((), 1), (("@", 5),), (("@", 13),), (("moved", 6),), (("free",),), ("",))),
            (4, (None, ("@", 0), ("@", 6), ("@", 3)), ((), 0, "red", ("@", 1), ["@", 6], True, ("@", -1), ("@", True), ("@", 10 ** 9))),
            (5, ((), ((0, 0),), ((10 ** 9, 10 ** 9), (0, 1))), ([], None, (0,), ((0,),), ((0, 0, 0),), ([0, 0],), ((-1, 0),), ((0, True),), ((None, 0),))),
        ):
            for own, wanted in [(own, True) for own in good] + [(own, False) for own in wrong]:
                frame = self.frame[:at] + (own,) + self.frame[at + 1:]
                self.check(wanted, frames=(frame,))
                self.check(wanted, frames=(self.frame, frame))
        for frame in (self.frame[:5], self.frame + (0,), list(self.frame), None, ()):
            self.check(False, frames=(frame,))

    def test_memories(self):
        self.check(False, memory=GOES)
        self.check(False, memory=list(CALM))
        self.check(False, memory=with_parts(CALM, young=4))
        self.check(False, memory=with_parts(CALM, remembered=()))
        self.check(False, memory=CALM[:8])
        bare = ((0, 0, (), (), None, ()),)
        for memory in (CALM, GOES, memory_begun(0, 4)):
            self.check(True, memory=memory, frames=bare)
        # REFERENCES of FRAMES lead to no OBJECT there, whatever goes on.
        for address, wanted in ((0, True), (18, True), (20, True), (8, False), (10, False), (6, False), (13, False), (19, False)):
            for frame in ((0, 0, (("@", address),), (), None, ()), (0, 0, (), (("@", address),), None, ()), (0, 0, (), (), ("@", address), ())):
                self.check(wanted, memory=GOES, frames=(frame,))

    def test_shown(self):
        for shown, wanted in (((), True), (("",), True), (("anything", "x y", "-5", "\n"), True), ([], False), (["1"], False), ((1,), False),
                              ((None,), False), ("1", False), (None, False), ((("1",),), False), (("1", True), False)):
            self.check(wanted, shown=shown)

    def test_ends(self):
        for end in (("done",), ("failed", "kind"), ("failed", ""), ("failed", "any string"), ("failed", "\n")):
            self.check(False, end=end)
            self.check(True, end=end, frames=())
        for end in ((), ("done", 1), ("done", "kind"), ("failed",), ("failed", 1), ("failed", None), ("failed", "kind", 1), ("going",), ["done"],
                    ["failed", "kind"], "done", True, False, 0, (None,), (("done",),), ("failed", ("kind",))):
            self.check(False, end=end)
            self.check(False, end=end, frames=())
        self.check(False, frames=())

    def test_other_things(self):
        for thing in STRANGE:
            self.assertIs(is_mill(thing), False)
            self.check(False, frames=thing)
            self.check(False, memory=thing)
            self.check(thing == () or thing == ("pop",) and type(thing) is tuple or thing == ("a",) * 1000, shown=thing)
            self.check(thing is None, end=thing)
        for thing in (self.mill[:3], self.mill + (None,), list(self.mill), (self.mill,), nested(100), {}):
            self.assertIs(is_mill(thing), False)


class RandomTest(unittest.TestCase):
    def cases(self):
        """PROGRAMS with LIMITS and SCHEDULES."""
        chance = random.Random(18)
        for seed in range(60):
            programs = [grown_program(seed), grown_program(seed, 20), shaped_program(seed), bent_program(seed), compiled_program(seed)]
            for program in [*programs, BUSY[seed % len(BUSY)], BUSY[(seed + 1) % len(BUSY)]]:
                limits = (chance.choice((0, 3, 8, 12, 20, 30, 50)), chance.choice((4, 4, 5, 7, 12)), chance.choice((1, 3, 6)))
                schedule = tuple(chance.choice((0, 0, 1, 2, 5, 9)) for _ in range(chance.choice((1, 2, 3))))
                yield program, limits, schedule

    def test_as_a_second_mill_does(self):
        counts = dict.fromkeys(("fault", "emptied", "wholes", "refused", "going", "done", "failed"), 0)
        for program, limits, schedule in self.cases():
            wanted, run = mills_plainly(program, limits, schedule, 100)
            fault = told_fault(wanted)
            mills = mills_along(program, limits, schedule, len(wanted) - 1)
            self.assertEqual(repr(mills), repr(wanted))
            outcome = told(run_mill, program, limits, schedule, 100)
            self.assertEqual(outcome, told(run_plain, program, limits, 100))
            if fault:
                self.assertEqual(outcome, raised("Fault", code=fault.code, place=fault.place))
                self.assertIs(is_taken(program), False)
            for name, own in (("emptied", run.emptied), ("wholes", run.wholes), ("refused", run.refused),
                              ("fault" if fault else "going" if run.end is None else run.end[0], 1)):
                counts[name] += own
        self.assertGreater(min(counts.values()), 30, counts)

    def test_what_always_holds(self):
        for program, limits, schedule in self.cases():
            taken = is_taken(program)
            states = states_until(program, limits, 100)
            mills = mills_along(program, limits, schedule, len(states) - 1)
            self.assertEqual(len(mills), len(states))
            for at, mill in enumerate(mills):
                self.assertIs(is_mill(mill), True)
                self.assertIs(has_form(mill), True)
                if taken:
                    self.assertEqual(breaches(mill), ())
                self.assertEqual(repr(sight(mill)), repr(canon(states[at])))
                words = live_words(states[at])
                self.assertLessEqual(words, used_words(mill[1]))
                self.assertLessEqual(used_words(mill[1]), limits[0])
                if at % 5 == 0:
                    self.check_whole(mill, words, taken)
                if at + 1 < len(mills):
                    self.assertEqual(mill_stepped(program, mill, limits, schedule[at % len(schedule)]), mills[at + 1])

    def check_whole(self, mill, words, taken):
        """Behind a whole collection used words are those that are live, and a MILL is tight."""
        memory, roots = whole(mill[1], roots_of(mill[0]))
        behind = (with_roots(mill[0], roots), memory, *mill[2:])
        self.assertEqual(used_words(memory), words)
        self.assertIs(is_mill(behind), True)
        self.assertEqual(sight(behind), sight(mill))
        if taken:
            self.assertIs(is_tight(behind), True)
            self.assertEqual(reached_words(behind), words)

    def test_a_collection_ends(self):
        # Nothing but one step a turn is done; from its flip on a collection takes at most room + 1 steps.
        for program in BUSY:
            for room in (14, 25, 40):
                begun = None
                for at, mill in enumerate(mills_along(program, (room, 6, 6), (1,), 400)):
                    if mill[1][6] is None:
                        begun = None
                    elif begun is None:
                        begun = at
                    else:
                        self.assertLessEqual(at - begun, room)

    def test_bent_ones(self):
        counts = {}
        for program, limits, schedule in [*self.cases()][::3]:
            if told(run_plain, program, limits, 60) == raised("Fault") or not is_taken(program):
                continue
            for at, mill in enumerate(mills_along(program, limits, schedule, 60)[::2]):
                bender = MillBender(at)
                for _ in range(4):
                    bent = bender.bent(mill)
                    wanted = has_form_plainly(bent) and set(breaches_plainly(bent)) <= {"cells"} and (bent[0] == ()) is (bent[3] is not None)
                    self.assertIs(is_mill(bent), wanted, bent)
                    counts[wanted] = counts.get(wanted, 0) + (bent != mill)
        self.assertGreater(min(counts.values()), 300, counts)


if __name__ == "__main__":
    unittest.main()
