"""Section 16 of the document: minor.py."""

import unittest

from gathermill.memory import is_memory, memory_begun, object_at, objects_in, placed, used_words, written
from gathermill.minor import minor, minor_moves
from tests.examples_of_document import check_file
from tests.programs import lists_of, raised, told
from tests.reference_memory import MemoryWalker, look, minor_plainly, with_parts
from tests.test_memory import CALM, FREE, GOES


def with_objects(room, nursery, *items):
    """The memory in which these OBJECTS were placed one behind the other."""
    memory = memory_begun(room, nursery)
    for item in items:
        memory, _ = placed(memory, item)
    return memory


class MinorTest(unittest.TestCase):
    # At 0, 2, 4 and 7: a CELL, a CELL that leads to it, an ARRAY that leads to both, an ARRAY without VALUES.
    young = with_objects(20, 10, ("cell", 1), ("cell", ("@", 0)), ("array", (("@", 2), ("@", 0))), ("array", ()))

    def check(self, memory, roots, moves, kept):
        """Whether OBJECTS are moved so, and roots that come are these."""
        wanted = minor_plainly(memory, roots)
        self.assertEqual(minor_moves(memory, roots), moves)
        self.assertEqual(repr(minor(memory, roots)), repr(wanted[:2]))
        self.assertEqual(minor(memory, roots)[1], kept)
        self.assertEqual(minor(roots=lists_of(roots), memory=lists_of(memory)), minor(memory, roots))
        self.assertEqual(minor_moves(roots=lists_of(roots), memory=lists_of(memory)), moves)
        comes, kept = minor(memory, roots)
        self.assertIs(is_memory(comes), True)
        self.assertEqual(minor(comes, kept), (comes, kept))
        self.assertEqual(look(memory, roots), look(comes, kept))
        self.assertEqual((comes[3], comes[8], comes[2][:comes[1]]), (0, (), (FREE,) * comes[1]))
        self.assertEqual((comes[4], comes[6], comes[7]), (memory[4], memory[6], memory[7]))
        return comes

    def test_examples(self):
        check_file(self, "16")

    def test_without_roots(self):
        comes = self.check(self.young, (), (), ())
        self.assertEqual(comes, memory_begun(20, 10))
        self.assertEqual(self.check(memory_begun(0, 4), (), (), ()), memory_begun(0, 4))

    def test_order(self):
        self.check(self.young, (("@", 4),), ((4, 10), (2, 13), (0, 15)), (("@", 10),))
        self.check(self.young, (("@", 7), ("@", 0), ("@", 4)), ((7, 10), (0, 11), (4, 13), (2, 16)), (("@", 10), ("@", 11), ("@", 13)))
        self.check(self.young, (("@", 0), ("@", 7), ("@", 2)), ((0, 10), (7, 12), (2, 13)), (("@", 10), ("@", 12), ("@", 13)))

    def test_roots_twice(self):
        self.check(self.young, (("@", 2), ("@", 2), ("@", 0), ("@", 2)), ((2, 10), (0, 12)), (("@", 10), ("@", 10), ("@", 12), ("@", 10)))

    def test_what_is_moved(self):
        comes = self.check(self.young, (("@", 4), ("@", 7)), ((4, 10), (7, 13), (2, 14), (0, 16)), (("@", 10), ("@", 13)))
        self.assertEqual([object_at(comes, own) for own in objects_in(comes)],
                         [("array", (("@", 14), ("@", 16))), ("array", ()), ("cell", ("@", 16)), ("cell", 1)])
        self.assertEqual((comes[5], used_words(comes)), (18, 8))

    def test_remembered_alone(self):
        big = placed(self.young, ("array", (("@", 7), 5, ("@", 2), None, 1, 2, 3, 4, ("@", 7), ("@", 0))))[0]
        self.assertEqual(big[8], (11, 13, 19, 20))
        comes = self.check(big, (), ((7, 21), (2, 22), (0, 24)), ())
        self.assertEqual(object_at(comes, 10), ("array", (("@", 21), 5, ("@", 22), None, 1, 2, 3, 4, ("@", 21), ("@", 24))))
        # Roots come ahead of what is remembered.
        self.check(big, (("@", 10), ("@", 0)), ((0, 21), (7, 23), (2, 24)), (("@", 10), ("@", 21)))

    def test_old_ones_stay(self):
        comes = self.check(CALM, (("@", 11), ("@", 6)), ((0, 13), (3, 16)), (("@", 11), ("@", 6)))
        self.assertEqual([object_at(comes, own) for own in (6, 8, 11, 13, 16)],
                         [("function", 1, (("@", 11),)), ("array", (("@", 13), None)), ("cell", ("@", 6)), ("array", (5, ("@", 16))),
                          ("cell", ("@", 8))])

    def test_functions(self):
        memory = with_objects(20, 10, ("cell", 7), ("function", 3, (("@", 0), ("@", 0))), ("cell", ("@", 2)))
        comes = self.check(memory, (("@", 2),), ((2, 10), (0, 13)), (("@", 10),))
        self.assertEqual(object_at(comes, 10), ("function", 3, (("@", 13), ("@", 13))))

    def test_rings(self):
        ring = written(written(self.young, 0, 0, ("@", 4)), 2, 0, ("@", 2))
        self.check(ring, (), (), ())
        self.check(ring, (("@", 2),), ((2, 10),), (("@", 10),))
        comes = self.check(ring, (("@", 0),), ((0, 10), (4, 12), (2, 15)), (("@", 10),))
        self.assertEqual([object_at(comes, own) for own in (10, 12, 15)],
                         [("cell", ("@", 12)), ("array", (("@", 15), ("@", 10))), ("cell", ("@", 15))])

    def test_amid_a_collection(self):
        comes = self.check(GOES, (("@", 0), ("@", 18)), ((0, 22),), (("@", 22), ("@", 18)))
        self.assertEqual((comes[5], object_at(comes, 22)), (24, ("cell", ("@", 18))))
        self.assertEqual(comes[2][6:22], GOES[2][6:22])
        comes = self.check(written(GOES, 18, 0, ("@", 0)), (), ((0, 22),), ())
        self.assertEqual(object_at(comes, 18), ("cell", ("@", 22)))

    def test_what_is_no_reference(self):
        for own in (None, True, 7, -1, "red", (), (1, 2), ("@",), ("@", -1), ("@", True), ("@", None), ("@", 0, 0), ("a", 0), (("@", 0),), ("@", "0")):
            comes = minor(self.young, (own, ("@", 7), own))
            self.assertEqual(repr(comes[1]), repr((own, ("@", 10), own)))
            self.assertEqual(repr(minor(self.young, [lists_of(own), ["@", 7]])[1]), repr((own, ("@", 10))))
            self.assertEqual(minor_moves(self.young, (own, ("@", 7))), ((7, 10),))

    def test_roots_that_lead_to_nothing(self):
        for memory, wrong in ((self.young, (1, 3, 5, 6, 8, 9, 10, 29, 30, 49, 50, 10 ** 9)), (CALM, (1, 7, 13, 18)), (GOES, (6, 7, 8, 10, 13, 22, 19, 3))):
            for address in wrong:
                for roots in ((("@", address),), (None, ("@", 0), ("@", address)), (("@", address), ("@", address), 1)):
                    for function in (minor, minor_moves):
                        self.assertEqual(told(function, memory, roots), raised("Unfit"), address)
                        self.assertEqual(told(function, lists_of(memory), lists_of(roots)), raised("Unfit"))

    def test_nothing_is_changed(self):
        memory, roots = lists_of(CALM), [["@", 0], 5]
        before = repr((memory, roots))
        minor(memory, roots)
        minor_moves(memory, roots)
        self.assertEqual(repr((memory, roots)), before)

    def test_great_ones(self):
        memory = with_objects(2000, 500, ("cell", None),
                              *[("cell", ("@", 2 * own)) for own in range(249)])
        moves = minor_moves(memory, (("@", 498),))
        self.assertEqual(moves, tuple((498 - 2 * own, 500 + 2 * own) for own in range(250)))
        self.assertIs(is_memory(minor(memory, (("@", 498),))[0]), True)


class RandomTest(unittest.TestCase):
    def test_as_the_document_tells(self):
        counts = {}
        for seed in range(150):
            walker = MemoryWalker(seed)
            for _ in range(30):
                walker.go_on()
                memory, roots = walker.memory, walker.roots
                comes = minor(memory, roots)
                wanted = minor_plainly(memory, roots)
                self.assertEqual(repr(comes), repr(wanted[:2]))
                self.assertEqual(minor_moves(memory, roots), wanted[2])
                self.assertIs(is_memory(comes[0]), True)
                self.assertEqual(minor(*comes), comes)
                self.assertEqual(look(memory, roots), look(*comes))
                # Less by the words of those that are not moved; nothing but the nursery and what led to it is changed.
                moved = comes[0][5] - memory[5]
                self.assertEqual(used_words(comes[0]), used_words(memory) - memory[3] + moved)
                for address in range(memory[1], len(memory[2])):
                    if address not in memory[8] and not memory[5] <= address < comes[0][5]:
                        self.assertEqual(memory[2][address], comes[0][2][address])
                counts[len(wanted[2])] = counts.get(len(wanted[2]), 0) + 1
                self.assertEqual(minor(with_parts(memory), lists_of(roots)), comes)
        self.assertGreater(counts[2], 50)


if __name__ == "__main__":
    unittest.main()
