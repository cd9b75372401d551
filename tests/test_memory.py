"""Section 15 of the document: memory.py."""

import unittest

from gathermill.memory import (
    head_of, is_memory, memory_begun, object_at, objects_in, part_of, placed, read, used_words, written,
)
from gathermill.values import words_of
from tests.examples_of_document import check_file
from tests.programs import STRANGE, lists_of, nested, raised, told
from tests.reference_memory import MemoryWalker, firsts, is_memory_plainly, look, parts_of, with_parts

FREE = ("free",)
# In the nursery an ARRAY and a CELL that lead to one another; here a FUNCTION, and an ARRAY that leads into the nursery.
CALM = (12, 6, (("array", 2), 5, ("@", 3), ("cell",), ("@", 11), FREE,
                FREE, FREE, FREE, FREE, FREE, FREE, FREE, FREE, FREE, FREE, FREE, FREE,
                *[FREE] * 12), 5, 0, 6, None, 0, ())
CALM = with_parts(CALM, words=(
    ("array", 2), 5, ("@", 3), ("cell",), ("@", 8), FREE,
    ("function", 1, 1), ("@", 11), ("array", 2), ("@", 0), None, ("cell",), ("@", 6), *[FREE] * 5, *[FREE] * 12),
    young=5, free=13, remembered=(9,))
# A collection goes on: half 1 (from 18) is here, scan at 19; there lie a moved CELL, one that is not moved, an ARRAY that is
# not moved and leads to both, a moved FUNCTION.
GOES = (12, 6, (("cell",), ("@", 18), FREE, FREE, FREE, FREE,
                ("moved", 18), True, ("cell",), ("@", 6), ("array", 2), ("@", 6), ("@", 8), ("moved", 20), ("@", 8), FREE, FREE, FREE,
                ("cell",), ("@", 10), ("function", 2, 1), ("@", 8), *[FREE] * 8), 2, 1, 22, 19, 5, ())


def bent(memory, at, word):
    """The memory with another word at an address."""
    return with_parts(memory, words=memory[2][:at] + (word,) + memory[2][at + 1:])


class FormTest(unittest.TestCase):
    def check(self, wanted, memory, **parts):
        memory = with_parts(memory, **parts)
        self.assertIs(is_memory(memory), wanted, parts)
        self.assertIs(is_memory_plainly(memory), wanted, parts)
        if wanted:
            self.assertIs(is_memory(list(memory)), False)

    def check_word(self, wanted, memory, at, word):
        memory = bent(memory, at, word)
        self.assertIs(is_memory(memory), wanted, (at, word))
        self.assertIs(is_memory_plainly(memory), wanted, (at, word))

    def test_examples(self):
        check_file(self, "15")

    def test_good_ones(self):
        self.check(True, CALM)
        self.check(True, GOES)
        for room in (0, 1, 7, 300):
            for nursery in (4, 9, 2000):
                self.check(True, memory_begun(room, nursery))
        self.assertIs(is_memory(thing=memory_begun(nursery=4, room=0)), True)

    def test_rooms_and_nurseries(self):
        for nursery in (0, 1, 2, 3, -1, True, None, "4"):
            self.check(False, memory_begun(3, 4), nursery=nursery, words=(FREE,) * 10)
        for room in (-1, True, None, 4, 2, "3", 10 ** 5000):
            self.check(False, memory_begun(3, 4), room=room)
        self.check(False, memory_begun(3, 4), words=(FREE,) * 9)
        self.check(False, memory_begun(3, 4), words=(FREE,) * 11)
        self.check(False, memory_begun(3, 4), words=[FREE] * 10)
        self.check(False, memory_begun(3, 3))
        self.check(False, memory_begun(1, 4), room=True)

    def test_young(self):
        for young in (0, 3, 4, 6, 7, -1, None, 5.0, "5"):
            self.check(False, CALM, young=young)
        self.check(False, memory_begun(3, 4), young=False)
        self.check(False, with_parts(memory_begun(3, 4), words=(("array", 4), 1, 1, 1, 1, *[FREE] * 5), young=5))

    def test_halves(self):
        for half in (1, 2, -1, None, False, True):
            self.check(False, CALM, half=half)
        self.check(False, GOES, half=0)
        self.check(False, GOES, half=True)
        self.check(True, memory_begun(3, 4), half=1, free=7)
        self.check(False, memory_begun(3, 4), half=1)
        # Without room both halves are the same.
        self.check(True, memory_begun(0, 4), half=1)
        self.check(True, memory_begun(0, 4), half=1, scan=4)

    def test_free(self):
        for free in (5, 6, 11, 12, 14, 18, 19, -1, None, "13"):
            self.check(False, CALM, free=free)
        for free in (18, 20, 21, 23, 10):
            self.check(False, GOES, free=free)

    def test_scan(self):
        for scan in (6, 12, 13, 0):
            self.check(scan in (6, 12, 13), CALM, scan=scan)
        for scan, wanted in ((17, False), (18, True), (19, True), (20, False), (21, False), (22, False), (23, False), (None, False),
                             (True, False), ("19", False), (-1, False)):
            self.check(wanted, GOES, scan=scan)
        # What leads there stands ahead of scan.
        self.check(True, bent(GOES, 19, ("@", 0)), scan=21, remembered=(19,))
        self.check(False, bent(GOES, 19, ("@", 0)), scan=22, remembered=(19,))
        self.check(True, bent(bent(GOES, 19, 7), 21, ("@", 18)), scan=22)
        self.check(False, bent(bent(GOES, 19, 7), 21, ("@", 8)), scan=22)

    def test_left(self):
        for left in (0, 1, 4, 6, -5, None, "5"):
            self.check(False, GOES, left=left)
        self.check(False, CALM, left=1)
        self.check(False, CALM, left=False)

    def test_remembered(self):
        for remembered in ((), (8,), (9, 9), (9, 10), (7, 9), [9], (True,), None, ("9",), ((9,),), 9):
            self.check(False, CALM, remembered=remembered)
        self.check(False, GOES, remembered=(19,))
        self.check_word(False, CALM, 10, ("@", 3))
        self.check(True, bent(CALM, 10, ("@", 3)), remembered=(9, 10))
        self.check(False, bent(CALM, 10, ("@", 3)), remembered=(10, 9))
        self.check(True, bent(CALM, 9, ("@", 11)), remembered=())
        # A REFERENCE into the nursery is remembered, also behind scan.
        self.check(False, bent(GOES, 19, ("@", 0)))
        self.check(True, bent(GOES, 19, ("@", 0)), remembered=(19,))

    def test_used(self):
        full = with_parts(memory_begun(4, 4), words=(("array", 1), 1, FREE, FREE, ("cell",), 1, *[FREE] * 6), young=2, free=6)
        self.check(True, full)
        self.check(False, with_parts(memory_begun(3, 4), words=(("array", 1), 1, FREE, FREE, ("cell",), 1, *[FREE] * 4), young=2, free=6))
        more = with_parts(memory_begun(4, 4), words=(FREE,) * 4 + (("cell",), 1, ("cell",), 2, FREE, FREE, FREE, FREE), half=1, free=8, scan=8,
                          left=4)
        self.check(True, more)
        self.check(False, bent(bent(more, 0, ("array", 0)), 1, FREE), young=1)

    def test_words_of_the_nursery(self):
        for at, word in ((0, ("array", 1)), (0, ("array", 3)), (0, FREE), (0, 5), (0, ("moved", 6)), (0, ("cell",)), (0, ("function", 0, 2)),
                         (0, ["array", 2]), (0, ("array", True)), (0, ("array", -1)), (0, ("array",)), (1, FREE), (1, ("cell",)), (1, ()),
                         (1, ("@", 1)), (1, ("@", 4)), (1, ("@", 10)), (1, ("@", 12)), (1, ("@", 18)), (1, ("@", -1)), (1, ["@", 3]),
                         (1, "Red"), (1, 10 ** 10), (3, ("cell", 1)), (3, ("cell", 0)), (5, None), (5, ("cell",)), (5, ("array", 0)), (5, ()),
                         (5, ["free"]), (5, ("free", 0)), (2, ("@", 10 ** 30))):
            self.check_word(False, CALM, at, word)
        for at, word in ((1, None), (1, ("@", 0)), (1, ("@", 6)), (1, ("@", 8)), (1, ("@", 11)), (2, "red"), (4, True)):
            self.check_word(True, CALM, at, word)

    def test_words_here(self):
        for at, word in ((6, ("function", 1, 0)), (6, ("function", 1, 2)), (6, ("function", -1, 1)), (6, ("function", True, 1)),
                         (6, ("function", 1)), (6, ("moved", 8)), (6, FREE), (6, ("array", 0)), (7, 5), (7, None), (7, ("@", 1)), (7, ("@", 10)),
                         (7, ("@", 18)), (8, ("array", 1)), (10, ("@", 12)), (10, ("@", 20)), (10, ("moved", 11)), (13, None), (13, ("cell",)),
                         (17, 0), (18, ("array", 0)), (29, 1), (18, 5), (12, FREE)):
            self.check_word(False, CALM, at, word)
        for at, word in ((6, ("function", 0, 1)), (6, ("function", 10 ** 30, 1)), (6, ("array", 1)), (6, ("cell",)), (7, ("@", 8)), (12, 7),
                         (10, ("@", 6)), (10, ("@", 8))):
            self.check_word(True, CALM, at, word)
        self.check(False, bent(CALM, 7, ("@", 3)))
        self.check(True, bent(CALM, 7, ("@", 3)), remembered=(7, 9))

    def test_words_there(self):
        # The moved ones and what stands behind them.
        for at, word in ((6, ("moved", 19)), (6, ("moved", 22)), (6, ("moved", 8)), (6, ("moved", 0)), (6, ("moved", 20)), (6, ("moved", True)),
                         (6, ("moved",)), (6, ("moved", 18, 0)), (6, ["moved", 18]), (6, FREE), (7, FREE), (7, ("cell",)), (7, "Red"),
                         (13, ("moved", 18)), (14, 5), (14, None), (14, FREE), (15, 7), (17, ("cell",))):
            self.check_word(False, GOES, at, word)
        # Old words may lead wherever they like.
        for at, word in ((7, None), (7, ("@", 10 ** 9)), (7, ("@", 1)), (14, ("@", 1)), (14, ("@", 29))):
            self.check_word(True, GOES, at, word)
        # Those that are not moved lead there alone.
        for word, wanted in ((("@", 6), True), (("@", 8), True), (("@", 10), True), (("@", 13), True), (7, True), (("@", 0), False),
                             (("@", 18), False), (("@", 20), False), (("@", 7), False), (("@", 15), False), (("@", 11), False)):
            self.check_word(wanted, GOES, 9, word)
            self.check_word(wanted, GOES, 11, word)
        # What is not moved any more is left.
        self.check(False, bent(GOES, 6, ("cell",)))
        self.check(True, bent(bent(bent(GOES, 6, ("cell",)), 0, FREE), 1, FREE), left=7, young=0)

    def test_full_halves(self):
        cells = (("cell",), 1, ("cell",), 2)
        for half in (0, 1):
            here, there = 4 + 4 * half, 8 - 4 * half
            begun = with_parts(memory_begun(4, 4), half=half, free=here)
            near = (FREE,) * here + cells + (FREE,) * (8 - here)
            far = (FREE,) * there + cells + (FREE,) * (8 - there)
            self.check(True, begun, words=near, free=here + 4)
            self.check(True, begun, words=far, scan=here, left=4)
            self.check(False, begun, words=far, scan=here, left=3)
            # All is moved: the second CELL first.
            moved = (("moved", here + 2), 1, ("moved", here), 2)
            both = near[:there] + moved + near[there + 4:]
            self.check(True, begun, words=both, free=here + 4, scan=here)
            self.check(False, begun, words=both[:there + 2] + (("moved", here + 2),) + both[there + 3:], free=here + 4, scan=here)
            row = (("array", 4), 1, 2, 3)
            self.check(False, begun, words=(FREE,) * here + row + (FREE,) * (8 - here), free=here + 4)
            self.check(False, begun, words=(FREE,) * there + row + (FREE,) * (8 - there), scan=here, left=5)
            self.check(True, begun, words=(FREE,) * there + (("array", 3), *row[1:]) + (FREE,) * (8 - there), scan=here, left=4)

    def test_words_here_behind_scan(self):
        for word, wanted in ((("@", 6), True), (("@", 8), True), (("@", 10), True), (("@", 13), True), (("@", 18), True), (("@", 7), False),
                             (("@", 12), False), (("@", 19), False), (("@", 22), False), (("@", 2), False)):
            self.check_word(wanted, GOES, 19, word)
            self.check_word(wanted, GOES, 21, word)
        # Words of the nursery lead to nothing there.
        for word, wanted in ((("@", 6), False), (("@", 8), False), (("@", 18), True), (("@", 20), True), (("@", 0), True)):
            self.check_word(wanted, GOES, 1, word)

    def test_other_things(self):
        for thing in STRANGE:
            self.assertIs(is_memory(thing), False)
            for part in parts_of(CALM):
                wanted = is_memory_plainly(with_parts(CALM, **{part: thing}))
                self.assertIs(is_memory(with_parts(CALM, **{part: thing})), wanted)
                self.assertIs(wanted, part == "half" and thing == 0 and type(thing) is int
                              or part == "scan" and thing is None or part == "left" and thing == 0 and type(thing) is int)
            self.check_word(type(thing) is int and thing in (0, 1, -1) or thing in (None, True, False) or thing in ("a", "code", "pop"),
                            CALM, 10, thing)
        for thing in (CALM[:8], CALM + (None,), (CALM,), nested(100), {}, CALM[2]):
            self.assertIs(is_memory(thing), False)


class LookingTest(unittest.TestCase):
    def test_used(self):
        self.assertEqual([used_words(own) for own in (CALM, GOES, lists_of(CALM), memory_begun(5, 4))], [12, 11, 12, 0])
        self.assertEqual(used_words(memory=GOES), 11)

    def test_parts(self):
        for memory, here in ((CALM, "here"), (GOES, "there")):
            other = "there" if here == "here" else "here"
            self.assertEqual([part_of(memory, own) for own in (0, 5, 6, 17, 18, 29)], ["young", "young", here, here, other, other])
            for address in (-1, 30, 10 ** 30, -10 ** 30):
                self.assertEqual(told(part_of, lists_of(memory), address), raised("NoPlace", place=address))
        self.assertEqual(part_of(address=0, memory=memory_begun(0, 4)), "young")
        self.assertEqual(told(part_of, memory_begun(0, 4), 4), raised("NoPlace", place=4))

    def test_objects(self):
        self.assertEqual(objects_in(CALM), (0, 3, 6, 8, 11))
        self.assertEqual(objects_in(memory=lists_of(GOES)), (0, 8, 10, 18, 20))
        self.assertEqual([object_at(CALM, own) for own in objects_in(CALM)],
                         [("array", (5, ("@", 3))), ("cell", ("@", 8)), ("function", 1, (("@", 11),)), ("array", (("@", 0), None)),
                          ("cell", ("@", 6))])
        self.assertEqual([object_at(lists_of(GOES), own) for own in objects_in(GOES)],
                         [("cell", ("@", 18)), ("cell", ("@", 6)), ("array", (("@", 6), ("@", 8))), ("cell", ("@", 10)),
                          ("function", 2, (("@", 8),))])
        self.assertEqual([head_of(address=own, memory=lists_of(CALM)) for own in objects_in(CALM)],
                         [("array", 2), ("cell",), ("function", 1, 1), ("array", 2), ("cell",)])
        self.assertEqual(object_at(address=0, memory=placed(memory_begun(5, 4), ("array", ()))[0]), ("array", ()))

    def test_read(self):
        for memory in (CALM, lists_of(CALM)):
            self.assertEqual([read(memory, *own) for own in ((0, 0), (0, 1), (3, 0), (6, 0), (8, 0), (8, 1), (11, 0))],
                             [5, ("@", 3), ("@", 8), ("@", 11), ("@", 0), None, ("@", 6)])
        self.assertEqual([read(number=own, address=10, memory=GOES) for own in (0, 1)], [("@", 6), ("@", 8)])

    def test_no_place(self):
        for memory, wrong in ((CALM, (1, 2, 4, 5, 7, 9, 13, 17, 18, 29, 30, -1, -30, 10 ** 9)), (GOES, (1, 6, 7, 9, 13, 14, 19, 22, 29, -3))):
            for address in wrong:
                for function, more in ((head_of, ()), (object_at, ()), (read, (0,)), (read, (99,)), (written, (0, 1)), (written, (-1, ("@", 1)))):
                    self.assertEqual(told(function, memory, address, *more), raised("NoPlace", place=address))
                    self.assertEqual(told(function, lists_of(memory), address, *more), raised("NoPlace", place=address))
        for address, many in ((0, 2), (3, 1), (6, 1), (8, 2), (11, 1)):
            for number in (many, many + 1, -1, -many, 10 ** 9):
                self.assertEqual(told(read, CALM, address, number), raised("NoPlace", place=number))
                self.assertEqual(told(written, CALM, address, number, ("@", 1)), raised("NoPlace", place=number))
        empty = placed(memory_begun(5, 4), ("array", ()))[0]
        self.assertEqual(told(read, empty, 0, 0), raised("NoPlace", place=0))
        self.assertEqual(told(written, GOES, 10, 2, 1), raised("NoPlace", place=2))


class ChangingTest(unittest.TestCase):
    def test_written(self):
        for value in (7, None, True, "red", ("@", 0), ("@", 3), ("@", 6), ("@", 8), ["@", 11]):
            wanted = tuple(value) if isinstance(value, list) else value
            comes = written(CALM, 0, 1, value)
            self.assertEqual(comes, bent(CALM, 2, wanted))
            self.assertEqual(written(value=value, number=1, address=0, memory=lists_of(CALM)), comes)
            self.assertIs(is_memory(comes), True)
        self.assertEqual(read(written(CALM, 8, 0, True), 8, 0), True)

    def test_remembered(self):
        for address, number, value, remembered in (
            (8, 0, 1, ()), (8, 0, ("@", 3), (9,)), (8, 0, ("@", 6), ()), (8, 1, ("@", 3), (9, 10)), (8, 1, ("@", 8), (9,)),
            (11, 0, ("@", 0), (9, 12)), (0, 0, ("@", 3), (9,)), (3, 0, ("@", 0), (9,)),
        ):
            comes = written(CALM, address, number, value)
            self.assertEqual(comes, with_parts(bent(CALM, address + 1 + number, value), remembered=remembered))
            self.assertIs(is_memory(comes), True)
        comes = written(written(CALM, 11, 0, ("@", 0)), 11, 0, 5)
        self.assertEqual(comes, bent(CALM, 12, 5))

    def test_what_can_not_be_written(self):
        for memory, address, number, value in (
            (CALM, 6, 0, ("@", 11)), (CALM, 0, 0, ("@", 1)), (CALM, 0, 0, ("@", 5)), (CALM, 0, 0, ("@", 13)), (CALM, 0, 0, ("@", 30)),
            (CALM, 0, 0, ("@", 10 ** 9)), (CALM, 8, 0, ("@", 18)), (GOES, 8, 0, 5), (GOES, 10, 1, ("@", 8)), (GOES, 10, 0, ("@", 18)),
            (GOES, 0, 0, ("@", 6)), (GOES, 0, 0, ("@", 8)), (GOES, 18, 0, ("@", 8)), (GOES, 18, 0, ("@", 10)), (GOES, 20, 0, ("@", 18)),
        ):
            self.assertEqual(told(written, memory, address, number, value), raised("Unfit"), (address, value))
            self.assertEqual(told(written, lists_of(memory), address, number, lists_of(value)), raised("Unfit"))
        self.assertEqual(written(GOES, 18, 0, ("@", 20)), bent(GOES, 19, ("@", 20)))
        self.assertEqual(written(GOES, 18, 0, ("@", 0)), with_parts(bent(GOES, 19, ("@", 0)), remembered=(19,)))

    def test_placed_in_the_nursery(self):
        begun = memory_begun(12, 6)
        for item, words in ((("array", ()), (("array", 0),)), (("cell", None), (("cell",), None)), (("function", 3, ()), (("function", 3, 0),)),
                            (("array", (1, True, "a", None, -1)), (("array", 5), 1, True, "a", None, -1))):
            comes, address = placed(begun, item)
            self.assertEqual((comes, address), (with_parts(begun, words=words + (FREE,) * (30 - len(words)), young=len(words)), 0))
            self.assertEqual(placed(item=lists_of(item), memory=lists_of(begun)), (comes, address))
            self.assertEqual(object_at(comes, 0), item)
        less = with_parts(CALM, words=CALM[2][:7] + (("@", 8),) + CALM[2][8:11] + (FREE,) * 19, free=11)
        self.assertIs(is_memory(less), True)
        comes, address = placed(less, ("array", ()))
        self.assertEqual((comes, address), (with_parts(bent(less, 5, ("array", 0)), young=6), 5))
        self.assertEqual(told(placed, less, ("array", (1,))), raised("CanNot"))

    def test_placed_here(self):
        begun = memory_begun(12, 6)
        big = ("array", (1, 2, 3, 4, 5, 6))
        comes, address = placed(begun, big)
        self.assertEqual((address, comes[3], comes[5], comes[8]), (6, 0, 13, ()))
        self.assertEqual(object_at(comes, 6), big)
        young, _ = placed(begun, ("cell", 1))
        comes, address = placed(young, ("array", (("@", 0), 1, ("@", 0), None, 5, 6)))
        self.assertEqual((address, comes[3], comes[5], comes[8]), (6, 2, 13, (7, 9)))
        # A FUNCTION of seven words, amid a collection.
        goes = with_parts(GOES, words=(FREE,) * 6 + (("moved", 18), True) + (FREE,) * 10 + (("cell",), 1, ("function", 2, 0)) + (FREE,) * 9,
                          young=0, free=21, scan=19, left=0)
        self.assertIs(is_memory(goes), True)
        item = ("function", 1, (("@", 18),) * 6)
        comes, address = placed(goes, item)
        self.assertEqual((address, comes[5], comes[6], object_at(comes, 21)), (21, 28, 19, item))
        self.assertIs(is_memory(comes), True)

    def test_as_many_words_as_there_are(self):
        for room in range(0, 20):
            for young in (0, 2, 4):
                memory = memory_begun(room, 6)
                if young > room:
                    continue
                for _ in range(young // 2):
                    memory, _ = placed(memory, ("cell", 1))
                for many in range(0, 16):
                    item = ("array", (1,) * many)
                    words = many + 1
                    fits = young + words <= room and (words > 6 or young + words <= 6)
                    comes = told(placed, memory, item)
                    if fits:
                        self.assertEqual((comes[1], used_words(comes[0])), (6 if words > 6 else young, young + words))
                        self.assertIs(is_memory(comes[0]), True)
                    else:
                        self.assertEqual(comes, raised("CanNot"))

    def test_used_words_count_what_is_left(self):
        # Eleven words of twelve are used, five of them left there.
        self.assertEqual(placed(GOES, ("array", ()))[1], 2)
        self.assertEqual(told(placed, GOES, ("array", (1,))), raised("CanNot"))
        self.assertEqual(told(placed, GOES, ("array", (1,) * 6)), raised("CanNot"))

    def test_what_can_not_be_placed(self):
        for item in (("cell", ("@", 1)), ("cell", ("@", 13)), ("cell", ("@", 18)), ("array", (1, ("@", 30))), ("array", (("@", 0), ("@", 2))),
                     ("function", 1, (("@", 5),)), ("array", (("@", 99),) * 50)):
            self.assertEqual(told(placed, CALM, item), raised("Unfit"))
            self.assertEqual(told(placed, lists_of(CALM), lists_of(item)), raised("Unfit"))
        for address in (6, 8, 10, 13, 1, 19):
            self.assertEqual(told(placed, GOES, ("cell", ("@", address))), raised("Unfit"))
        self.assertEqual(told(placed, CALM, ("array", (("@", 0),) * 50)), raised("CanNot"))

    def test_nothing_is_changed(self):
        memory, item = lists_of(CALM), ["array", []]
        before = repr(memory)
        told(placed, memory, item)
        placed(lists_of(memory_begun(4, 4)), item)
        written(memory, 8, 0, 1)
        read(memory, 8, 0)
        self.assertEqual((repr(memory), item), (before, ["array", []]))


class RandomTest(unittest.TestCase):
    def test_what_comes_is_a_memory(self):
        done = {}
        for seed in range(120):
            walker = MemoryWalker(seed)
            for _ in range(40):
                before = walker.memory
                how = walker.go_on()
                done[how, walker.memory[6] is None] = done.get((how, walker.memory[6] is None), 0) + 1
                self.assertIs(is_memory(walker.memory), True, before)
                self.assertIs(is_memory_plainly(walker.memory), True)
                if how in ("place", "write"):
                    # All OBJECTS stay as they are, but for the one that is written.
                    changed = [own for own in objects_in(before) if object_at(before, own) != object_at(walker.memory, own)]
                    self.assertLessEqual(len(changed), how == "write")
        self.assertEqual(len(done), 12)
        self.assertGreater(min(done.values()), 100)

    def test_words_are_used_for_what_is_placed(self):
        for seed in range(60):
            walker = MemoryWalker(seed)
            for _ in range(30):
                item = walker.item()
                before = walker.memory
                comes = told(placed, before, item)
                words = words_of(item)
                small = words <= before[1]
                fits = used_words(before) + words <= before[0] and (not small or before[3] + words <= before[1])
                self.assertEqual(comes == raised("CanNot"), not fits)
                if fits:
                    memory, address = comes
                    self.assertEqual(used_words(memory), used_words(before) + words)
                    self.assertEqual(objects_in(memory), tuple(sorted((*objects_in(before), address))))
                    self.assertEqual(part_of(memory, address), "young" if small else "here")
                    self.assertEqual(object_at(memory, address), item)
                    self.assertEqual(look(memory, walker.roots), look(before, walker.roots))
                walker.go_on()

    def test_bent_ones(self):
        counts = {True: 0, False: 0}
        for seed in range(150):
            walker = MemoryWalker(seed)
            for _ in range(30):
                walker.go_on()
                for _ in range(3):
                    memory = walker.bent()
                    self.assertIs(is_memory(memory), is_memory_plainly(memory), memory)
                    counts[is_memory(memory)] += memory != walker.memory
        self.assertGreater(min(counts.values()), 300)

    def test_addresses(self):
        for seed in range(30):
            walker = MemoryWalker(seed)
            for _ in range(30):
                walker.go_on()
            memory = walker.memory
            here = firsts(memory)[0]
            for address in range(-2, len(memory[2]) + 2):
                wanted = raised("NoPlace", place=address)
                if 0 <= address < len(memory[2]):
                    wanted = "young" if address < memory[1] else "here" if here <= address < here + memory[0] else "there"
                self.assertEqual(told(part_of, memory, address), wanted)
                self.assertEqual(told(head_of, memory, address) == raised("NoPlace", place=address), address not in objects_in(memory))


if __name__ == "__main__":
    unittest.main()
