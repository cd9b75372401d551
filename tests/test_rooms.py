"""Section 21 of the document: rooms.py."""

import random
import unittest

from gathermill.checker import is_taken
from gathermill.compiler import compiled_text
from gathermill.machine import live_words, run_plain, states_along
from gathermill.major import whole
from gathermill.memory import memory_begun, used_words
from gathermill.mill import mill_begun, mills_along, roots_of, run_mill, with_roots
from gathermill.rooms import (
    first_refused, floating, floating_along, gathered, lacks_at, least_room, live_in, needs, peak,
)
from gathermill.sights import sight
from gathermill.values import words_of
from tests.examples_of_document import check_file
from tests.programs import STRANGE, lists_of, made, main, raised, told
from tests.random_codes import bent_program, compiled_program, shaped_program
from tests.reference_machine import Plain
from tests.reference_mill import order_plainly
from tests.test_memory import CALM, GOES
from tests.test_mill import BUSY, SCHEDULES

ENDLESS = 10 ** 9
# Its needs are 2, 5, 1, 4 and 8: they fall and rise.
WAVES = main("constant number 1; array 1; constant number 2; array 2; pop; array 0; pop; constant number 3; array 1; constant number 4; array 1; "
             "array 2; constant number 0; constant number 0; many; halt")


def needs_plainly(program, deep, most):
    """Section 21: needs, by the STATES of a run with room enough."""
    states = states_along(program, (ENDLESS, 4, deep), most)
    return [(at, live_words(one) + words_of(other[1][-1])) for at, (one, other) in enumerate(zip(states, states[1:]))
            if len(other[1]) > len(one[1])]


def first_lack(program, limits, most):
    """The number of the first INSTRUCTION that meets the lack "room" in the plain run; None if none does."""
    plain = Plain(program, limits)
    for at in range(most):
        if plain.end is not None:
            return None
        plain.step()
        if plain.refused:
            return at
    return None


class RoomsCase(unittest.TestCase):
    def check(self, program, deep, most, wanted=None):
        found = needs_plainly(program, deep, most)
        if wanted is not None:
            self.assertEqual(found, wanted)
        for own in (program, lists_of(program)):
            self.assertEqual(needs(own, deep, most), found)
            self.assertIs(type(needs(own, deep, most)), list)
            self.assertTrue(all(type(pair) is tuple for pair in needs(own, deep, most)))
            self.assertEqual(least_room(own, deep, most), max([need for _, need in found], default=0))
            self.assertEqual(peak(own, deep, most), max(live_words(state) for state in states_along(program, (ENDLESS, 4, deep), most)))
        self.assertEqual(needs(most=most, deep=deep, program=program), found)
        self.assertEqual(least_room(most=most, deep=deep, program=program), least_room(program, deep, most))
        self.assertEqual(peak(most=most, deep=deep, program=program), peak(program, deep, most))
        self.assertLessEqual(peak(program, deep, most), least_room(program, deep, most))
        self.check_rooms(program, deep, most, found)
        return found

    def check_rooms(self, program, deep, most, found):
        """What is refused with rooms at, one below and one above each need."""
        lacks = lacks_at(program, deep, most)
        self.assertEqual(lacks_at(most=most, deep=deep, program=lists_of(program)), lacks)
        self.assertTrue(all(type(own) is tuple for own in lacks))
        for room in sorted({0, *[own for _, need in found for own in (need - 1, need, need + 1)]}):
            wanted = next((at for at, need in found if need > room), None)
            for own in (program, lists_of(program)):
                self.assertEqual(first_refused(own, room, deep, most), wanted)
            self.assertEqual(first_refused(most=most, deep=deep, room=room, program=program), wanted)
            self.assertEqual([at for least, last, at in lacks if least <= room <= last], [] if wanted is None else [wanted])
        # They follow one another, and no two tell the same INSTRUCTION.
        rooms = [own for least, last, _ in lacks for own in (least, last + 1)]
        self.assertEqual(rooms, [own for pair in zip([0, *rooms[1:-1:2]], rooms[1::2]) for own in pair])
        self.assertEqual(rooms[-1:] or [0], [least_room(program, deep, most)])
        self.assertEqual([own[2] for own in lacks], sorted({own[2] for own in lacks}))


class NeedsTest(RoomsCase):
    def test_examples(self):
        check_file(self, "21")

    def test_each_that_makes_an_object(self):
        self.check(main("array 0; halt"), 1, 9, [(0, 1)])
        self.check(main("constant number 7; store 0; box 0; halt", 1), 1, 9, [(2, 2)])
        self.check(made("0 1 0: constant number 7; store 0; box 0; close 1 slot 0 slot 0; halt", "0 0 2: jump 0"), 1, 9, [(2, 2), (3, 5)])
        self.check(main("constant number 3; constant nothing; many; halt"), 1, 9, [(2, 4)])
        # Lacks that are not "room" make none.
        self.check(main("guard 6; constant number 1001; constant nothing; many; pop; halt; pop; array 0; halt"), 1, 9, [(5, 1)])
        self.check(main("guard 6; constant truth true; constant nothing; many; pop; halt; pop; array 0; halt"), 1, 9, [(5, 1)])

    def test_without_a_new_object(self):
        self.check(main("constant number 7; show; halt"), 1, 9, [])
        self.check(main("halt"), 1, 9, [])
        self.assertEqual((least_room(main("halt"), 1, 9), peak(main("halt"), 1, 9), lacks_at(main("halt"), 1, 9)), (0, 0, []))
        for room in (0, 1, 9):
            self.assertIs(first_refused(main("halt"), room, 1, 9), None)

    def test_most(self):
        self.check(WAVES, 1, 0, [])
        self.check(WAVES, 1, 1, [])
        self.check(WAVES, 1, 2, [(1, 2)])
        # All but the last INSTRUCTION are done at most.
        self.check(WAVES, 1, 4, [(1, 2), (3, 5)])
        self.check(WAVES, 1, 3, [(1, 2)])
        found = self.check(WAVES, 1, 99)
        self.check(WAVES, 1, 16, found)
        self.check(WAVES, 1, 15, found)
        self.check(WAVES, 1, 14, found[:-1])

    def test_needs_that_fall_and_rise(self):
        program = compiled_text("let a = [1]; a = [a, 2]; a = 0; a = [3]; a = [a, a, a, a]; a = 0; let b = many(3, 4); b = [b, b, b];")
        self.check(program, 1, 99)
        self.assertEqual([need for _, need in needs(program, 1, 99)], [2, 5, 2, 7, 4, 8])
        at = [own for own, _ in needs(program, 1, 99)]
        self.assertEqual(lacks_at(program, 1, 99), [(0, 1, at[0]), (2, 4, at[1]), (5, 6, at[3]), (7, 7, at[5])])
        self.assertEqual([first_refused(program, room, 1, 99) for room in range(9)], [at[0]] * 2 + [at[1]] * 3 + [at[3]] * 2 + [at[5], None])

    def test_the_first_of_several_is_told(self):
        program = compiled_text("let a = [1, 2]; a = 0; a = [3, 4]; a = 0; a = [5, 6];")
        at = needs(program, 1, 99)[0][0]
        self.assertEqual(lacks_at(program, 1, 99), [(0, 2, at)])

    def test_deep(self):
        program = compiled_text("let down = fn (n, l) { if n == 0 { return l; } return down(n - 1, [n, l]); }; "
                                "try { show len(down(5, nothing)); } catch e { show e; let a = [1, 2, 3, 4]; }")
        for deep in (1, 2, 4, 6, 7, 9):
            self.check(program, deep, 300)
        self.assertLess(len(needs(program, 3, 300)), len(needs(program, 7, 300)))
        self.assertEqual(run_plain(program, (least_room(program, 3, 300), 4, 3), 300), (("deep",), ("done",)))

    def test_runs_that_fail(self):
        self.check(compiled_text("let a = [1]; a = [a]; fail a;"), 1, 99)
        self.check(compiled_text("let f = fn () { fail [1, 2]; }; try { f(); } catch e { show [e]; } 1 / 0; show [1, 2, 3];"), 3, 99)

    def test_what_is_written_into(self):
        self.check(compiled_text("let a = many(3, 0); a[0] = [1, 2, 3]; a[1] = a[0]; a[0] = 5; a[1] = a; let b = 7; let f = fn () { b = [b, a]; return b; }; "
                                 "f(); f(); a[1] = 0; a = 0; b = 0; show [1];"), 3, 300)

    def test_unfit(self):
        refused = main("pop; halt")
        for program in (refused, (), ((1, 1, 0, (("halt",),)),), *STRANGE):
            for function, more in ((needs, (1, 9)), (least_room, (1, 9)), (peak, (1, 9)), (first_refused, (3, 1, 9)), (lacks_at, (1, 9)),
                                   (floating_along, ((9, 4, 1), (1,), 9))):
                self.assertEqual(told(function, program, *more), raised("Unfit"), function)
                self.assertEqual(told(function, lists_of(program), *more), raised("Unfit"))
                self.assertEqual(told(function, program, *[0 if own == 9 else own for own in more]), raised("Unfit"))

    def test_long_runs(self):
        grows = compiled_text("let l = nothing; let i = 0; while true { l = [i, l]; i = i + 1; }")
        self.assertEqual(least_room(grows, 60, 12000), 3 * len(needs(grows, 60, 12000)))
        self.assertEqual(peak(grows, 60, 12000), least_room(grows, 60, 12000))
        busy = compiled_text("let i = 0; let a = 0; while true { a = [i]; i = i + 1; }")
        self.assertEqual((least_room(busy, 60, 20000), first_refused(busy, 3, 60, 20000)), (4, needs(busy, 60, 20000)[1][0]))


class FloatingTest(unittest.TestCase):
    def check(self, mill, words, live):
        for own in (mill, lists_of(mill)):
            self.assertEqual(floating(own), words)
            self.assertEqual(live_in(own), live)
            behind = gathered(own)
            self.assertEqual(floating(behind), 0)
            self.assertEqual(live_in(behind), live)
            memory, roots = whole(mill[1], roots_of(mill[0]))
            self.assertEqual(behind, (with_roots(mill[0], roots), memory, *mill[2:]))
        self.assertEqual((floating(mill=mill), live_in(mill=mill), gathered(mill=mill)), (words, live, behind))

    def mill(self, memory, *slots):
        return (((0, 0, slots, (), None, ()),), memory, ("x",), None)

    def test_calm(self):
        self.check(self.mill(CALM, ("@", 3), 7, ()), 4, 8)
        self.check(self.mill(CALM, ("@", 3), ("@", 6)), 0, 12)
        self.check(self.mill(CALM), 12, 0)
        self.check(self.mill(memory_begun(9, 4)), 0, 0)
        self.check(self.mill(memory_begun(0, 4), 1), 0, 0)

    def test_amid_a_collection(self):
        # An OBJECT that is moved counts once, where it lies now.
        self.check(self.mill(GOES, ("@", 18)), 4, 7)
        self.check(self.mill(GOES, ("@", 18), ("@", 0), ("@", 20)), 0, 11)
        self.check(self.mill(GOES), 11, 0)

    def test_along(self):
        program = compiled_text("let a = [1, 2]; a = [a]; a = 0; show [3];")
        for limits in ((20, 4, 1), (20, 12, 1), (6, 4, 1), (5, 4, 1), (2, 4, 1)):
            for schedule in SCHEDULES:
                for most in (0, 1, 7, 99):
                    wanted = [floating(own) for own in mills_along(program, limits, schedule, most) if own[3] is None]
                    self.assertEqual(floating_along(program, limits, schedule, most), wanted)
                    self.assertEqual(floating_along(most=most, schedule=list(schedule), limits=list(limits), program=lists_of(program)), wanted)
        self.assertEqual(floating_along(program, (20, 12, 1), (0,), 0), [0])
        self.assertEqual(max(floating_along(program, (20, 12, 1), (0,), 99)), 7)

    def test_nothing_is_changed(self):
        mill = lists_of(self.mill(GOES, ("@", 18)))
        before = repr(mill)
        for function in (floating, live_in, gathered):
            function(mill)
            self.assertEqual(repr(mill), before)
        self.assertNotIn("[", repr(gathered(mill)))


class RandomTest(RoomsCase):
    def programs(self):
        for seed in range(60):
            for program in (compiled_program(seed), shaped_program(seed), bent_program(seed), BUSY[seed % len(BUSY)]):
                if is_taken(program):
                    yield seed, program

    def test_needs(self):
        some = 0
        for seed, program in self.programs():
            some += len(self.check(program, (1, 3, 9)[seed % 3], (60, 120)[seed % 2])) > 2
        self.assertGreater(some, 60)

    def test_the_least_room_is_enough_and_one_word_less_is_not(self):
        chance = random.Random(21)
        several = 0
        for _, program in self.programs():
            least = least_room(program, 5, 200)
            free = run_plain(program, (ENDLESS, 4, 5), 200)
            for room in sorted({least, least + 1, least + 7}):
                self.assertEqual(run_plain(program, (room, 4, 5), 200), free)
                schedule = tuple(chance.choice((0, 1, 2, 9)) for _ in range(3))
                self.assertEqual(run_mill(program, (room, chance.choice((4, 5, 12)), 5), schedule, 200), free)
                self.assertIs(first_lack(program, (room, 4, 5), 200), None)
            for least, last, at in lacks_at(program, 5, 200):
                several += at != needs(program, 5, 200)[0][0]
                for room in {least, last}:
                    self.assertEqual(first_lack(program, (room, 4, 5), 200), at)
                    self.check_gathered(program, room, at, chance)
        self.assertGreater(several, 30)

    def check_gathered(self, program, room, at, chance):
        """The gathered run is the free one up to the INSTRUCTION that is refused, whatever the SCHEDULE and the nursery."""
        states = states_along(program, (ENDLESS, 4, 5), at)
        limits = (room, chance.choice((4, 6, 9)), 5)
        mills = mills_along(program, limits, tuple(chance.choice((0, 1, 2, 9)) for _ in range(3)), at + 1)
        short = states_along(program, (room, 4, 5), at + 1)
        for number, state in enumerate(states):
            self.assertEqual(sight(mills[number])[0][-1][:2], state[0][-1][:2])
            self.assertEqual(live_in(mills[number]), live_words(state))
            self.assertLessEqual(live_words(state), used_words(mills[number][1]))
            self.assertLessEqual(used_words(mills[number][1]), room)
        self.assertEqual(sight(mills[at + 1])[2:], short[at + 1][2:])
        if mills[at + 1][3] is None:
            self.assertEqual(mills[at + 1][0][-1][3][-1], "room")
        else:
            self.assertEqual(mills[at + 1][3], ("failed", "room"))

    def test_floating(self):
        for seed, program in self.programs():
            limits = ((12, 30)[seed % 2], (4, 7)[seed % 2], 5)
            schedule = ((0,), (1, 0), (5,))[seed % 3]
            mills = [own for own in mills_along(program, limits, schedule, 80) if own[3] is None]
            self.assertEqual(floating_along(program, limits, schedule, 80), [floating(own) for own in mills])
            for mill in mills[::7]:
                words = sum(words_of(own) for own in sight(mill)[1])
                self.assertEqual(live_in(mill), words)
                self.assertEqual(floating(mill), used_words(mill[1]) - words)
                behind = gathered(mill)
                self.assertEqual((floating(behind), sight(behind)), (0, sight(mill)))
                self.assertEqual(len(order_plainly(behind)), len(sight(mill)[1]))

    def test_begun(self):
        for _, program in self.programs():
            mill = mill_begun(program, (9, 4, 1))
            self.assertEqual((floating(mill), live_in(mill)), (0, 0))


if __name__ == "__main__":
    unittest.main()
