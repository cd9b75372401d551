"""Section 19 of the document: sights.py."""

import random
import unittest

from gathermill.checker import is_taken
from gathermill.compiler import compiled_text
from gathermill.machine import canon, states_along
from gathermill.major import collected, fetched, flipped, whole
from gathermill.memory import memory_begun, objects_in, part_of
from gathermill.mill import mill_begun, mills_along, roots_of, run_mill, with_roots
from gathermill.minor import minor
from gathermill.sights import is_parting, parting, same_sight, seen_at, sight, unseen
from tests.examples_of_document import check_file
from tests.programs import STRANGE, lists_of, nested
from tests.random_codes import compiled_program, shaped_program
from tests.reference_memory import with_parts
from tests.reference_mill import order_plainly, sight_plainly
from tests.test_memory import CALM, FREE, GOES
from tests.test_mill import BUSY


def mill_of(memory, *slots, stack=(), function=None, shown=(), end=None):
    """A MILL with one FRAME."""
    return (((0, 0, slots, stack, function, ()),), memory, shown, end)


def is_one(one, other):
    """Whether two things are one; repr tells True from 1."""
    return repr(one) == repr(other)


def parting_plainly(one, other):
    if is_one(one, other):
        return None
    if isinstance(one, tuple) and isinstance(other, tuple) and len(one) == len(other):
        at = next(own for own in range(len(one)) if not is_one(one[own], other[own]))
        return (at, *parting_plainly(one[at], other[at]))
    return ()


def is_parting_plainly(one, other, thing):
    if not isinstance(thing, tuple):
        return False
    for at in thing:
        if not (isinstance(one, tuple) and isinstance(other, tuple) and len(one) == len(other)):
            return False
        if type(at) is not int or not 0 <= at < len(one):
            return False
        one, other = one[at], other[at]
    return parting_plainly(one, other) == ()


class SightTest(unittest.TestCase):
    def check(self, mill, objects, at, rest):
        """What the objects of the SIGHT are, where they lie, and what it does not have."""
        for own in (mill, lists_of(mill)):
            self.assertEqual(repr(sight(own)[1]), repr(objects))
            self.assertEqual(sight(own), sight_plainly(mill))
            self.assertEqual(seen_at(own), at)
            self.assertEqual(unseen(own), rest)
        self.assertEqual((sight(mill=mill), seen_at(mill=mill), unseen(mill=mill)), (sight(mill), at, rest))
        self.assertEqual(canon(sight(mill)), sight(mill))
        return sight(mill)

    def test_examples(self):
        check_file(self, "19")

    def test_in_the_nursery_and_here(self):
        seen = self.check(mill_of(CALM, ("@", 3), (), 7), (("cell", ("@", 1)), ("array", (("@", 2), None)), ("array", (5, ("@", 0)))), (3, 8, 0), (6, 11))
        self.assertEqual(seen[0], ((0, 0, (("@", 0), (), 7), (), None, ()),))
        self.check(mill_of(CALM, function=("@", 6)), (("function", 1, (("@", 1),)), ("cell", ("@", 0))), (6, 11), (0, 3, 8))
        self.check(mill_of(CALM), (), (), (0, 3, 6, 8, 11))

    def test_moved_and_not_looked_at(self):
        # The CELL at 18 leads there, to an ARRAY that is not moved; this to a moved CELL and to one that is not.
        self.check(mill_of(GOES, ("@", 18)), (("cell", ("@", 1)), ("array", (("@", 0), ("@", 2))), ("cell", ("@", 0))), (18, 10, 8), (0, 20))
        # The FUNCTION here leads to the CELL there.
        self.check(mill_of(GOES, function=("@", 20)), (("function", 2, (("@", 1),)), ("cell", ("@", 2)), ("cell", ("@", 3)), ("array", (("@", 2), ("@", 1)))),
                   (20, 8, 18, 10), (0,))
        self.check(mill_of(GOES, ("@", 0)), (("cell", ("@", 1)), ("cell", ("@", 2)), ("array", (("@", 1), ("@", 3))), ("cell", ("@", 1))), (0, 18, 10, 8), (20,))

    def test_moved_out_of_the_nursery_and_on(self):
        # One step moves an OBJECT twice: to half 0, and to half 1.
        program = compiled_text("let a = [1]; let b = [a, a]; show b;")
        mill = mills_along(program, (20, 8, 1), (0,), 7)[-1]
        self.assertEqual(seen_at(mill), (0, 2))
        memory, roots = collected(mill[1], roots_of(mill[0]))
        later = (with_roots(mill[0], roots), memory, (), None)
        self.assertEqual(later[1][2][8:13], (("moved", 28), 1, ("moved", 30), ("@", 8), ("@", 8)))
        self.assertEqual((sight(later), seen_at(later), unseen(later)), (sight(mill), (28, 30), ()))
        # What leads there by an old address and by the new one is one OBJECT.
        half, value = fetched(memory, 30, 1)
        self.assertEqual((value, half[2][31:33]), (("@", 28), (("@", 8), ("@", 28))))
        self.assertEqual(sight((later[0], half, (), None)), sight(mill))
        self.assertIs(same_sight((later[0], half, (), None), mill), True)

    def test_rows_of_moves(self):
        # A REFERENCE means what the REFERENCE to the new address means, also if that is moved again.
        words = (FREE,) * 4 + (("moved", 6), 1, ("moved", 8), 2, ("cell",), 7) + (FREE,) * 10
        memory = (8, 4, words, 0, 1, 12, 12, 0, ())
        self.assertEqual(sight(mill_of(memory, ("@", 4), ("@", 6), ("@", 8))),
                         (((0, 0, (("@", 0), ("@", 0), ("@", 0)), (), None, ()),), (("cell", 7),), (), None))
        self.assertEqual(seen_at(mill_of(memory, ("@", 6))), (8,))

    def test_order(self):
        # FRAME by FRAME, slots, stack, FUNCTION; then OBJECT by OBJECT.
        words = (("cell",), ("@", 4), ("cell",), ("@", 6), ("cell",), ("@", 8), ("cell",), 1, ("cell",), 2, ("function", 1, 1), ("@", 0)) + (FREE,) * 40
        memory = (20, 12, words, 12, 0, 12, None, 0, ())
        frames = ((0, 5, ((), ("@", 2)), (9, ("@", 0)), None, ()), (1, 0, (("@", 0),), (("@", 2),), ("@", 10), ((1, 2),)))
        mill = (frames, memory, ("a b",), None)
        self.assertEqual(seen_at(mill), (2, 0, 10, 6, 4, 8))
        self.assertEqual(sight(mill), (((0, 5, ((), ("@", 0)), (9, ("@", 1)), None, ()), (1, 0, (("@", 1),), (("@", 0),), ("@", 2), ((1, 2),))),
                                       (("cell", ("@", 3)), ("cell", ("@", 4)), ("function", 1, (("@", 1),)), ("cell", 1), ("cell", ("@", 5)), ("cell", 2)),
                                       ("a b",), None))
        self.check(mill, sight(mill)[1], (2, 0, 10, 6, 4, 8), ())

    def test_ended(self):
        for end in (("done",), ("failed", "kind")):
            mill = ((), CALM, ("x", "y z"), end)
            self.assertEqual(sight(mill), ((), (), ("x", "y z"), end))
            self.assertEqual((seen_at(mill), unseen(mill)), ((), (0, 3, 6, 8, 11)))

    def test_great_ones(self):
        memory = memory_begun(2000, 500)
        words = tuple(own for at in range(900) for own in (("cell",), ("@", 500 + 2 * at + 2))) + (("cell",), None)
        memory = with_parts(memory, words=memory[2][:500] + words + memory[2][500 + len(words):], free=500 + len(words))
        mill = mill_of(memory, ("@", 500))
        self.assertEqual(seen_at(mill), tuple(range(500, 2302, 2)))
        self.assertEqual(sight(mill)[1], (*[("cell", ("@", at + 1)) for at in range(900)], ("cell", None)))


class PartingTest(unittest.TestCase):
    mill = (((0, 3, (("@", 3), (), 1), (True, ("@", 0)), None, ((4, 1),)), (1, 2, (), (), ("@", 6), ())), CALM, ("x",), None)

    def check(self, other, wanted, mill=None):
        mill = mill or self.mill
        for one, two, more in ((mill, other, ()), (lists_of(mill), lists_of(other), ())):
            self.assertEqual(parting(one, two), wanted)
            self.assertIs(same_sight(one, two), wanted is None)
            if wanted is not None:
                self.assertIs(is_parting(one, two, wanted), True)
        self.assertEqual(parting(other=other, mill=mill), wanted)
        self.assertIs(same_sight(other=other, mill=mill), wanted is None)
        self.assertEqual(parting(other, mill), wanted)
        self.assertEqual(parting_plainly(sight(mill), sight(other)), wanted)

    def turned(self, at, field, own):
        """The MILL with another field in one FRAME."""
        frame = self.mill[0][at]
        frame = frame[:field] + (own,) + frame[field + 1:]
        return (self.mill[0][:at] + (frame,) + self.mill[0][at + 1:], *self.mill[1:])

    def test_one(self):
        self.check(self.mill, None)
        memory, roots = minor(CALM, roots_of(self.mill[0]))
        self.check((with_roots(self.mill[0], roots), memory, ("x",), None), None)
        for function in (collected, whole):
            memory, roots = function(CALM, roots_of(self.mill[0]))
            self.check((with_roots(self.mill[0], roots), memory, ("x",), None), None)

    def test_each_field(self):
        self.check(self.turned(0, 0, 5), (0, 0, 0))
        self.check(self.turned(0, 1, 4), (0, 0, 1))
        self.check(self.turned(0, 2, (("@", 3), (), 2)), (0, 0, 2, 2))
        self.check(self.turned(0, 2, (("@", 3), 1)), (0, 0, 2))
        self.check(self.turned(0, 2, (5, (), 1)), (0, 0, 2, 0))
        self.check(self.turned(0, 3, (True, 5)), (0, 0, 3, 1))
        self.check(self.turned(0, 3, ()), (0, 0, 3))
        self.check(self.turned(0, 4, ("@", 3)), (0, 0, 4))
        self.check(self.turned(0, 5, ()), (0, 0, 5))
        self.check(self.turned(0, 5, ((4, 2),)), (0, 0, 5, 0, 1))
        self.check(self.turned(1, 1, 7), (0, 1, 1))
        self.check((self.mill[0][:1], *self.mill[1:]), (0,))
        self.check((*self.mill[:2], ("y",), None), (2, 0))
        self.check((*self.mill[:2], (), None), (2,))
        self.check((*self.mill[:2], ("x", "x"), None), (2,))

    def test_ends(self):
        ended = ((), CALM, ("x",), ("done",))
        self.check(ended, (0,))
        self.check(((), CALM, ("x",), ("failed", "kind")), (3,), ended)
        self.check(((), CALM, ("x",), ("failed", "kind")), (3, 1), ((), CALM, ("x",), ("failed", "room")))
        self.check(((), GOES, ("x",), ("done",)), None, ended)

    def test_objects(self):
        def other(at, word):
            return (self.mill[0], with_parts(CALM, words=CALM[2][:at] + (word,) + CALM[2][at + 1:]), *self.mill[2:])

        self.check(other(1, 6), (1, 1, 1, 0))
        self.check(other(10, 7), (1, 3, 1, 1))
        self.check(other(6, ("function", 2, 1)), (1, 2, 1))
        self.check(other(4, 5), (1,))
        # OBJECTS that FRAMES do not lead to are not looked at.
        one = mill_of(CALM, ("@", 6))
        self.check(mill_of(with_parts(CALM, words=CALM[2][:1] + (9,) + CALM[2][2:]), ("@", 6)), None, one)
        # Where FRAMES part this is told first.
        self.check((self.mill[0], *other(1, 6)[1:3], None), (1, 1, 1, 0))
        self.check((self.turned(0, 1, 9)[0], *other(1, 6)[1:]), (0, 0, 1))

    def test_numbers_of_references(self):
        one = mill_of(CALM, ("@", 0), ("@", 3))
        self.check(mill_of(CALM, ("@", 0), ("@", 0)), (0, 0, 2, 1, 1), one)
        # The same place in the order: then the OBJECTS part.
        self.check(mill_of(CALM, ("@", 3), ("@", 0)), (1, 0, 0), one)

    def test_truths_and_numbers(self):
        for one, other in ((1, True), (0, False)):
            self.check(mill_of(CALM, one), (0, 0, 2, 0), mill_of(CALM, other))
            self.check(mill_of(CALM, stack=(5, one)), (0, 0, 3, 1), mill_of(CALM, stack=(5, other)))
            words = [CALM[2][:1] + (own,) + CALM[2][2:] for own in (one, other)]
            mills = [mill_of(with_parts(CALM, words=own), ("@", 0)) for own in words]
            self.check(mills[0], (1, 0, 1, 0), mills[1])
            self.assertIs(is_parting(*mills, (1, 0, 1, 0)), True)
            self.assertIs(is_parting(*mills, (1, 0)), False)

    def test_is_parting(self):
        other = (self.turned(0, 2, (("@", 3), (), 2))[0], CALM, ("x", "y"), None)
        self.assertEqual(parting(self.mill, other), (0, 0, 2, 2))
        for thing, wanted in (((0, 0, 2, 2), True), ((2,), True), ((), False), ((0,), False), ((0, 0, 2), False), ((0, 0, 2, 1), False),
                              ((0, 0, 2, 3), False), ((0, 0, 2, -1), False), ((0, 0, 2, 2, 0), False), ((2, 0), False), ((3,), False), ((3, 0), False),
                              ((1,), False), ((4,), False), ((-2,), False), ((0, 2, 2), False), ((0, 0, 9), False),
                              ([0, 0, 2, 2], False), ((0, 0, [2], 2), False), ((0, 0, (2,), 2), False), ((False, 0, 2, 2), False), ((0, False, 2, 2), False),
                              ("2", False), (("2",), False), ((None,), False), ((10 ** 30,), False), ((0, 0, 0), False), ((0, 0, 0, 0), False)):
            self.assertIs(is_parting(self.mill, other, thing), wanted, thing)
            self.assertIs(is_parting(thing=thing, other=lists_of(other), mill=lists_of(self.mill)), wanted)
            self.assertIs(is_parting(other, self.mill, thing), wanted)
        for thing in (*STRANGE, nested(100)):
            self.assertIs(is_parting(self.mill, other, thing), False)
            self.assertIs(is_parting(self.mill, self.mill, thing), False)

    def test_strings_are_no_tuples(self):
        one, other = (self.mill[:2] + (own, None) for own in (("xy",), ("xz",)))
        self.assertEqual(parting(one, other), (2, 0))
        self.assertIs(is_parting(one, other, (2, 0, 1)), False)


class RandomTest(unittest.TestCase):
    def mills(self):
        chance = random.Random(19)
        for seed in range(40):
            program = (compiled_program(seed), shaped_program(seed), BUSY[seed % len(BUSY)])[seed % 3]
            limits = (chance.choice((12, 20, 40)), chance.choice((4, 6, 9)), 5)
            schedule = tuple(chance.choice((0, 1, 2, 5)) for _ in range(3))
            if is_taken(program):
                yield program, limits, schedule

    def test_partings(self):
        chance = random.Random(20)
        counts = {True: 0, False: 0}
        for program, limits, schedule in self.mills():
            mills = mills_along(program, limits, schedule, 80)
            for _ in range(25):
                one, other = chance.choice(mills), chance.choice(mills)
                sights = sight(one), sight(other)
                self.assertEqual(parting(one, other), parting_plainly(*sights))
                self.assertIs(same_sight(one, other), is_one(*sights))
                thing = ()
                while chance.randrange(6):
                    thing += (chance.choice((0, 0, 0, 1, 1, 2, 3, 4)),)
                wanted = is_parting_plainly(*sights, thing)
                self.assertIs(is_parting(one, other, thing), wanted)
                counts[wanted] += 1
        self.assertGreater(min(counts.values()), 30)

    def test_what_keeps_the_sight(self):
        for program, limits, schedule in self.mills():
            states = states_along(program, limits, 60)
            for at, mill in enumerate(mills_along(program, limits, schedule, 60)):
                seen = sight(mill)
                self.assertEqual(repr(seen), repr(canon(states[at])))
                self.assertEqual(canon(seen), seen)
                order = order_plainly(mill)
                self.assertEqual(seen_at(mill), tuple(order))
                self.assertEqual(unseen(mill), tuple(own for own in objects_in(mill[1]) if own not in order))
                roots = roots_of(mill[0])
                changed = [function(mill[1], roots) for function in (minor, collected, whole)]
                if mill[1][6] is None and mill[1][3] == 0:
                    changed.append(flipped(mill[1], roots))
                for address in objects_in(mill[1]):
                    if part_of(mill[1], address) == "young" or part_of(mill[1], address) == "here":
                        many = mill[1][2][address][-1] if mill[1][2][address] != ("cell",) else 1
                        changed.extend((fetched(mill[1], address, number)[0], roots) for number in range(many))
                for memory, kept in changed:
                    later = (with_roots(mill[0], kept), memory, *mill[2:])
                    self.assertIs(same_sight(mill, later), True)
                    self.assertIs(parting(mill, later), None)

    def test_one_sight_one_outcome(self):
        for program, limits, schedule in self.mills():
            one = mills_along(program, limits, schedule, 30)
            other = mills_along(program, (limits[0], 13, limits[2]), (4, 0), 30)
            for at, (mine, yours) in enumerate(zip(one, other)):
                self.assertIs(same_sight(mine, yours), True)
            self.assertEqual(run_mill(program, limits, schedule, 300), run_mill(program, (limits[0], 13, limits[2]), (4, 0), 300))

    def test_begun(self):
        for program, limits, _ in self.mills():
            self.assertEqual(sight(mill_begun(program, limits)), states_along(program, limits, 0)[0])


if __name__ == "__main__":
    unittest.main()
