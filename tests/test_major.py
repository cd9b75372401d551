"""Section 17 of the document: major.py."""

import unittest

from gathermill.major import collected, fetched, flipped, steps_to_end, whole
from gathermill.memory import is_memory, memory_begun, object_at, objects_in, placed, read, used_words, written
from gathermill.minor import minor
from tests.examples_of_document import check_file
from tests.programs import lists_of, raised, told
from tests.reference_memory import MemoryWalker, firsts, flipped_memory, look, stepped_memory, with_parts
from tests.reference_mill import fetched_plainly, whole_plainly
from tests.test_memory import CALM, FREE, GOES, bent
from tests.test_minor import with_objects

# Here, in half 0 from 4 on: at 4 a CELL, at 6 an ARRAY that leads to both, at 9 a CELL that leads to 6.
HERE = with_parts(memory_begun(12, 4), free=11, words=(
    *[FREE] * 4, ("cell",), 5, ("array", 2), ("@", 4), ("@", 9), ("cell",), ("@", 6), *[FREE] * 17))
NO_REFERENCES = (None, True, 7, -1, "red", (), (1, 2), ("@",), ("@", -1), ("@", True), ("@", None), ("@", 0, 0), ("a", 4), (("@", 4),))


class MajorCase(unittest.TestCase):
    def both(self, function, *arguments):
        """What a function tells, also of lists."""
        comes = told(function, *arguments)
        self.assertEqual(repr(told(function, *lists_of(arguments))), repr(comes))
        return comes


class FlipTest(MajorCase):
    def test_examples(self):
        check_file(self, "17")

    def check(self, memory, roots):
        comes = self.both(flipped, memory, roots)
        self.assertEqual(repr(comes), repr(flipped_memory(memory, roots)))
        self.assertEqual(flipped(roots=roots, memory=memory), comes)
        self.assertIs(is_memory(comes[0]), True)
        self.assertEqual(used_words(comes[0]), used_words(memory))
        self.assertEqual(look(memory, roots), look(*comes))
        self.assertEqual(comes[0][6], firsts(comes[0])[0])
        return comes

    def test_without_roots(self):
        memory, roots = self.check(HERE, ())
        self.assertEqual((memory, roots), (with_parts(HERE, half=1, free=16, scan=16, left=7), ()))

    def test_roots(self):
        memory, roots = self.check(HERE, (("@", 9), 7, ("@", 4)))
        self.assertEqual(roots, (("@", 16), 7, ("@", 18)))
        self.assertEqual(memory[4:8], (1, 20, 16, 3))
        self.assertEqual(memory[2][4:20], (("moved", 18), 5, ("array", 2), ("@", 4), ("@", 9), ("moved", 16), ("@", 6), *[FREE] * 5,
                                           ("cell",), ("@", 6), ("cell",), 5))

    def test_a_root_twice(self):
        memory, roots = self.check(HERE, (("@", 6), ("@", 4), ("@", 6), ("@", 6)))
        self.assertEqual((roots, memory[5], memory[7]), ((("@", 16), ("@", 19), ("@", 16), ("@", 16)), 21, 2))

    def test_what_is_no_reference(self):
        for own in NO_REFERENCES:
            memory, roots = self.check(HERE, (own, ("@", 4), own))
            self.assertEqual(repr(roots), repr((own, ("@", 16), own)))

    def test_the_other_half(self):
        memory, roots = self.check(whole(HERE, (("@", 6),))[0], (("@", 16),))
        self.assertEqual((memory[4], roots), (0, (("@", 4),)))

    def test_without_objects(self):
        for room in (0, 1, 9):
            memory = memory_begun(room, 4)
            self.assertEqual(self.check(memory, (3,)), (with_parts(memory, half=1, free=4 + room, scan=4 + room), (3,)))

    def test_can_not(self):
        self.assertEqual(self.both(flipped, CALM, ()), raised("CanNot"))
        self.assertEqual(self.both(flipped, GOES, ()), raised("CanNot"))
        goes = flipped(HERE, ())[0]
        self.assertEqual(self.both(flipped, goes, ()), raised("CanNot"))
        # That goes ahead of roots that do not fit.
        for memory in (CALM, GOES, goes):
            self.assertEqual(self.both(flipped, memory, (("@", 1),)), raised("CanNot"))
        self.assertEqual(self.both(flipped, with_parts(HERE, words=(("array", 0),) + HERE[2][1:], young=1), (("@", 0),)), raised("CanNot"))

    def test_wrong_roots(self):
        for address in (0, 5, 7, 8, 10, 11, 12, 16, 18, 28, 10 ** 9):
            for function in (flipped, collected, whole):
                self.assertEqual(self.both(function, HERE, (("@", 4), ("@", address))), raised("Unfit"), address)
        for address in (6, 8, 10, 13, 7, 19, 22, 2):
            for function in (collected, whole):
                self.assertEqual(self.both(function, GOES, (("@", address),)), raised("Unfit"), address)


class StepTest(MajorCase):
    def check(self, memory, roots):
        comes = self.both(collected, memory, roots)
        self.assertEqual(repr(comes), repr(stepped_memory(memory, roots)))
        self.assertEqual(collected(roots=roots, memory=memory), comes)
        self.assertIs(is_memory(comes[0]), True)
        self.assertEqual(look(memory, roots), look(*comes))
        return comes

    def test_the_first_one_is_a_minor_collection_and_a_flip(self):
        memory, roots = self.check(CALM, (("@", 6), ("@", 0)))
        self.assertEqual((memory, roots), flipped(*minor(CALM, (("@", 6), ("@", 0)))))
        self.assertEqual(memory[3], 0)
        # Without a nursery to be emptied it is a flip alone.
        self.assertEqual(self.check(HERE, (("@", 4),)), flipped(HERE, (("@", 4),)))

    def test_one_that_moves(self):
        memory, roots = flipped(HERE, (("@", 6),))
        memory, roots = self.check(self.check(memory, roots)[0], roots)
        self.assertEqual(memory[2][16:21], (("array", 2), ("@", 19), ("@", 9), ("cell",), 5))
        self.assertEqual((memory[5:8], memory[2][4], roots), ((21, 18, 2), ("moved", 19), (("@", 16),)))

    def test_a_header(self):
        memory, roots = flipped(HERE, (("@", 6),))
        self.assertEqual(self.check(memory, roots), (with_parts(memory, scan=17), roots))
        # A HEADER of a FUNCTION, and words that are no REFERENCES.
        goes = with_parts(GOES, words=GOES[2][:19] + (("@", 18),) + GOES[2][20:], scan=20)
        self.assertEqual(self.check(goes, ()), (with_parts(goes, scan=21), ()))
        for word in (7, None, True, "red", ("@", 18), ("@", 20)):
            memory = bent(GOES, 19, word)
            self.assertEqual(self.check(memory, ()), (with_parts(memory, scan=20), ()))

    def test_a_reference_into_the_nursery(self):
        memory = with_parts(bent(GOES, 19, ("@", 0)), remembered=(19,))
        self.assertEqual(self.check(memory, ()), (with_parts(memory, scan=20), ()))

    def test_an_object_moved_already(self):
        memory = bent(GOES, 19, ("@", 13))
        self.assertEqual(self.check(memory, ()), (with_parts(bent(GOES, 19, ("@", 20)), scan=20), ()))
        memory, roots = flipped(HERE, (("@", 6), ("@", 4)))
        memory, roots = self.check(self.check(memory, roots)[0], roots)
        self.assertEqual((memory[2][17], memory[5], memory[7]), (("@", 19), 21, 2))

    def test_the_end(self):
        memory = flipped(HERE, ())[0]
        comes, roots = self.check(memory, (5,))
        self.assertEqual((comes, roots), (with_parts(memory, words=(FREE,) * 28, scan=None, left=0), (5,)))
        self.assertEqual(used_words(comes), used_words(memory) - 7)
        # What lies in the nursery and here stays.
        goes = with_parts(bent(GOES, 19, 7), scan=22)
        goes = bent(goes, 21, ("@", 18))
        comes, _ = self.check(goes, (("@", 0),))
        self.assertEqual(comes, with_parts(goes, words=goes[2][:6] + (FREE,) * 12 + goes[2][18:], scan=None, left=0))

    def test_step_by_step(self):
        memory, roots = HERE, (("@", 9),)
        steps = 0
        for many in (8, 7, 6, 5, 4, 3, 2, 1):
            memory, roots = self.check(memory, roots)
            steps += 1
            self.assertEqual(steps_to_end(memory), many)
            self.assertEqual(used_words(memory), 7)
        memory, roots = self.check(memory, roots)
        self.assertEqual((steps_to_end(memory), memory[6], used_words(memory)), (0, None, 7))
        self.assertEqual([object_at(memory, own) for own in objects_in(memory)],
                         [("cell", ("@", 18)), ("array", (("@", 21), ("@", 16))), ("cell", 5)])


class WholeTest(MajorCase):
    def check(self, memory, roots, kept=None, objects=None):
        comes = self.both(whole, memory, roots)
        self.assertEqual(repr(comes), repr(whole_plainly(memory, roots)))
        self.assertEqual(whole(roots=roots, memory=memory), comes)
        behind, came = comes
        self.assertIs(is_memory(behind), True)
        self.assertEqual((behind[3], behind[6:]), (0, (None, 0, ())))
        self.assertEqual(look(memory, roots), look(behind, came))
        self.assertEqual(used_words(behind), behind[5] - firsts(behind)[0])
        if kept is not None:
            self.assertEqual(came, kept)
            self.assertEqual([object_at(behind, own) for own in objects_in(behind)], objects)
        # Once more: the half alone is another one, all addresses by room.
        again, same = whole(behind, came)
        by = (1 if again[4] else -1) * memory[0]
        self.assertEqual(same, tuple(("@", own[1] + by) if isinstance(own, tuple) and own[:1] == ("@",) and len(own) == 2
                                     and type(own[1]) is int and own[1] >= 0 else own for own in came))
        self.assertEqual(again[4], 1 - behind[4])
        self.assertEqual(objects_in(again), tuple(own + by for own in objects_in(behind)))
        self.assertEqual(used_words(again), used_words(behind))
        return comes

    def test_begun_calm(self):
        self.check(HERE, (("@", 9),), (("@", 16),), [("cell", ("@", 18)), ("array", (("@", 21), ("@", 16))), ("cell", 5)])
        self.check(HERE, (("@", 4),), (("@", 16),), [("cell", 5)])

    def test_without_roots(self):
        for memory in (HERE, CALM, GOES, memory_begun(0, 4), memory_begun(7, 5)):
            behind, _ = self.check(memory, (), (), [])
            self.assertEqual((used_words(behind), behind[2]), (0, (FREE,) * len(memory[2])))

    def test_begun_amid_another_one(self):
        self.check(GOES, (("@", 18), ("@", 0)), (("@", 6), ("@", 8)),
                   [("cell", ("@", 10)), ("cell", ("@", 6)), ("array", (("@", 6), ("@", 13))), ("cell", ("@", 6))])
        memory, roots = flipped(HERE, (("@", 6), ("@", 9)))
        for _ in range(9):
            self.assertEqual(self.check(memory, roots)[1], (("@", 4), ("@", 7)))
            memory, roots = collected(memory, roots)
            if memory[6] is None:
                break
        self.assertEqual(self.check(memory, roots)[1], (("@", 4), ("@", 7)))

    def test_remembered(self):
        # The ARRAY at 8 leads to that at 0; a minor collection keeps what it leads to, though it is dead.
        behind, kept = self.check(CALM, (("@", 11),), (("@", 18),), [("cell", ("@", 20)), ("function", 1, (("@", 18),))])
        self.assertEqual(used_words(behind), 4)
        self.check(CALM, (("@", 8),), (("@", 18),), [("array", (("@", 21), None)), ("array", (5, ("@", 24))), ("cell", ("@", 18))])
        self.check(CALM, (("@", 3), 5, ("@", 3)), (("@", 18), 5, ("@", 18)),
                   [("cell", ("@", 20)), ("array", (("@", 23), None)), ("array", (5, ("@", 18)))])

    def test_rings(self):
        ring = written(with_objects(9, 5, ("array", (1, 2)), ("cell", ("@", 0))), 0, 1, ("@", 3))
        self.check(ring, (("@", 3),), (("@", 14),), [("cell", ("@", 16)), ("array", (1, ("@", 14)))])
        self.check(ring, (), (), [])

    def test_the_order(self):
        memory = with_objects(20, 20, ("array", (1,)), ("array", (2,)), ("array", (3,)), ("array", (("@", 4), ("@", 2))), ("array", (("@", 0), ("@", 6))))
        self.check(memory, (("@", 9), ("@", 0)), (("@", 40), ("@", 43)),
                   [("array", (("@", 43), ("@", 45))), ("array", (1,)), ("array", (("@", 48), ("@", 50))), ("array", (3,)), ("array", (2,))])

    def test_what_is_no_reference(self):
        for own in NO_REFERENCES:
            _, roots = self.check(HERE, (own, ("@", 4), own))
            self.assertEqual(repr(roots), repr((own, ("@", 16), own)))

    def test_full(self):
        memory = with_objects(12, 12, ("cell", 1), ("array", (("@", 0),) * 9))
        self.assertEqual(used_words(memory), 12)
        self.check(memory, (("@", 2),), (("@", 24),), [("array", (("@", 34),) * 9), ("cell", 1)])


class FetchTest(MajorCase):
    def check(self, memory, address, number, value):
        comes, own = self.both(fetched, memory, address, number)
        self.assertEqual(repr(own), repr(value))
        self.assertEqual(fetched(number=number, address=address, memory=memory), (comes, own))
        self.assertEqual(repr((comes, own)), repr(fetched_plainly(memory, address, number)))
        self.assertIs(is_memory(comes), True)
        self.assertEqual(read(comes, address, number), value)
        self.assertEqual(used_words(comes), used_words(memory))
        self.assertEqual(look(memory, (("@", address),)), look(comes, (("@", address),)))
        self.assertEqual(fetched(comes, address, number), (comes, own))
        return comes

    def test_calm(self):
        for address, number, value in ((0, 0, 5), (0, 1, ("@", 3)), (3, 0, ("@", 8)), (6, 0, ("@", 11)), (8, 0, ("@", 0)), (8, 1, None), (11, 0, ("@", 6))):
            self.assertEqual(self.check(CALM, address, number, value), CALM)
        for value in (True, 0, "red", -1, None):
            self.assertEqual(self.check(bent(CALM, 1, value), 0, 0, value), bent(CALM, 1, value))

    def test_one_that_is_not_moved(self):
        comes = self.check(GOES, 18, 0, ("@", 22))
        self.assertEqual(comes[2][10], ("moved", 22))
        self.assertEqual((comes[5:8], object_at(comes, 22)), ((25, 19, 2), ("array", (("@", 6), ("@", 8)))))
        comes = self.check(GOES, 20, 0, ("@", 22))
        self.assertEqual((comes[5:8], comes[2][8], object_at(comes, 22)), ((24, 19, 3), ("moved", 22), ("cell", ("@", 6))))

    def test_one_that_is_moved(self):
        memory = bent(GOES, 19, ("@", 13))
        self.assertEqual(self.check(memory, 18, 0, ("@", 20)), bent(GOES, 19, ("@", 20)))

    def test_what_leads_near(self):
        self.assertEqual(self.check(GOES, 0, 0, ("@", 18)), GOES)
        memory = with_parts(bent(GOES, 19, ("@", 0)), remembered=(19,))
        self.assertEqual(self.check(memory, 18, 0, ("@", 0)), memory)

    def test_ahead_of_scan_all_is_mended(self):
        memory, roots = flipped(HERE, (("@", 6),))
        for _ in range(3):
            memory, roots = collected(memory, roots)
        self.assertEqual(self.check(memory, 16, 0, ("@", 19)), memory)
        self.assertEqual(self.check(memory, 16, 1, ("@", 21)), memory)

    def test_no_place(self):
        for memory, wrong in ((CALM, (1, 2, 5, 13, 18, 29, 30, -1, 10 ** 9)), (GOES, (1, 6, 7, 9, 13, 14, 19, 22, 29, 30, -3))):
            for address in wrong:
                for number in (0, -1, 99):
                    self.assertEqual(self.both(fetched, memory, address, number), raised("NoPlace", place=address))
        for memory, address, many in ((CALM, 0, 2), (CALM, 6, 1), (GOES, 18, 1), (GOES, 20, 1)):
            for number in (many, many + 1, -1, -many, 10 ** 9):
                self.assertEqual(self.both(fetched, memory, address, number), raised("NoPlace", place=number))
        self.assertEqual(self.both(fetched, placed(memory_begun(5, 4), ("array", ()))[0], 0, 0), raised("NoPlace", place=0))

    def test_there(self):
        for address, number in ((8, 0), (10, 0), (10, 1)):
            self.assertEqual(self.both(fetched, GOES, address, number), raised("Unfit"))
        # Behind NoPlace.
        self.assertEqual(self.both(fetched, GOES, 8, 1), raised("NoPlace", place=1))
        self.assertEqual(self.both(fetched, GOES, 10, 2), raised("NoPlace", place=2))


class StepsTest(MajorCase):
    def test_none(self):
        for memory in (CALM, HERE, memory_begun(0, 4)):
            self.assertEqual(steps_to_end(memory), 0)
            self.assertEqual(steps_to_end(memory=lists_of(memory)), 0)

    def test_some(self):
        # The words at 19, 20 and 21, the ARRAY and the CELL that are moved for them, and the end.
        self.assertEqual(steps_to_end(GOES), 3 + 3 + 2 + 1)
        self.assertEqual(steps_to_end(with_parts(bent(bent(GOES, 19, 1), 21, ("@", 18)), scan=22)), 1)
        self.assertEqual(steps_to_end(flipped(memory_begun(0, 4), ())[0]), 1)
        self.assertEqual(steps_to_end(flipped(HERE, (("@", 4),))[0]), 3)
        # A ring is gone over once.
        ring = collected(written(with_objects(9, 5, ("array", (1, 2)), ("cell", ("@", 0))), 0, 1, ("@", 3)), (("@", 0),))[0]
        self.assertEqual(steps_to_end(ring), 6)


class RandomTest(unittest.TestCase):
    def test_as_the_document_tells(self):
        counts = {}
        for seed in range(120):
            walker = MemoryWalker(seed)
            for _ in range(30):
                walker.go_on()
                memory, roots = walker.memory, walker.roots
                goes = memory[6] is not None
                comes = collected(memory, roots)
                self.assertEqual(repr(comes), repr(stepped_memory(memory, roots)))
                self.assertIs(is_memory(comes[0]), True)
                self.assertEqual(look(memory, roots), look(*comes))
                if goes:
                    # The end makes used words fewer by left, no other step changes them.
                    less = memory[7] if comes[0][6] is None else 0
                    self.assertEqual(used_words(comes[0]), used_words(memory) - less)
                    self.assertLessEqual(steps_to_end(memory), memory[0] + 1)
                    self.assertEqual(steps_to_end(comes[0]), steps_to_end(memory) - 1)
                else:
                    self.assertEqual(used_words(comes[0]), used_words(minor(memory, roots)[0]))
                can = not goes and not memory[3]
                self.assertEqual(told(flipped, memory, roots), flipped_memory(memory, roots) if can else raised("CanNot"))
                behind = whole(memory, roots)
                self.assertEqual(repr(behind), repr(whole_plainly(memory, roots)))
                self.assertIs(is_memory(behind[0]), True)
                self.assertEqual(look(memory, roots), look(*behind))
                counts["goes" if goes else "calm"] = counts.get("goes" if goes else "calm", 0) + 1
                self.check_fetched(walker, counts)
        self.assertGreater(min(counts.values()), 80, counts)

    def check_fetched(self, walker, counts):
        memory = walker.memory
        for address in objects_in(memory):
            for number in range(len(object_at(memory, address)[-1]) if memory[2][address] != ("cell",) else 1):
                comes = told(fetched, memory, address, number)
                if not walker.is_near(address):
                    self.assertEqual(comes, raised("Unfit"))
                    continue
                self.assertEqual(repr(comes), repr(fetched_plainly(memory, address, number)))
                self.assertIs(is_memory(comes[0]), True)
                self.assertEqual(look(memory, walker.roots), look(comes[0], walker.roots))
                what = "moves" if comes[0][5] > memory[5] else "mends" if comes[0] != memory else "reads"
                counts[what] = counts.get(what, 0) + 1

    def test_nothing_is_changed(self):
        for memory in (CALM, GOES, HERE):
            given = [lists_of(memory), [["@", objects_in(memory)[-1]], [3], 5]]
            before = repr(given)
            for function, more in ((collected, given[1:]), (whole, given[1:]), (fetched, [objects_in(memory)[-1], 0]), (steps_to_end, [])):
                comes = function(given[0], *more)
                self.assertEqual(repr(given), before)
                if function is not steps_to_end:
                    self.assertIs(type(comes), tuple)
                    self.assertIs(type(comes[0]), tuple)
                    self.assertNotIn("[", repr(comes))


if __name__ == "__main__":
    unittest.main()
