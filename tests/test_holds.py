"""Section 20 of the document: holds.py."""

import itertools
import random
import unittest

from gathermill.checker import is_taken
from gathermill.holds import breaches, has_form, is_sound, is_tight, reached, reached_words
from gathermill.major import whole
from gathermill.memory import memory_begun, used_words
from gathermill.mill import is_mill, mill_begun, mills_along, roots_of, with_roots
from tests.examples_of_document import check_file
from tests.programs import STRANGE, lists_of, main, nested, raised, told
from tests.random_codes import bent_program, compiled_program, grown_program, shaped_program
from tests.reference_memory import parts_of, with_parts
from tests.reference_mill import MillBender, breaches_plainly, has_form_plainly, order_plainly
from tests.test_memory import CALM, FREE, GOES, bent
from tests.test_machine import tuple_of
from tests.test_mill import BUSY, states_until

BARE = ((0, 0, ((), ()), (), None, ()),)
ORDER = ("laid", "led", "kept", "moved", "left", "used", "cells")
# In the nursery a CELL; here, in half 1 from 26 on, two CELLS to which two OBJECTS there were moved, a FUNCTION that leads to one
# there, and an ARRAY; there two moved CELLS, a CELL that is not moved and an ARRAY that leads to it. scan is at 30.
FULL = (20, 6, (
    ("cell",), ("@", 26), FREE, FREE, FREE, FREE,
    ("moved", 26), 1, ("moved", 28), 2, ("cell",), ("@", 6), ("array", 1), ("@", 10), *[FREE] * 12,
    ("cell",), ("@", 28), ("cell",), 5, ("function", 1, 1), ("@", 10), ("array", 2), ("@", 12), ("@", 0), *[FREE] * 11,
), 2, 1, 35, 30, 4, (34,))
FRAMES = ((0, 0, (("@", 26),), (("@", 0), 5), None, ()), (1, 2, (), (), ("@", 30), ((0, 0),)))
SOUND = (FRAMES, FULL, ("x",), None)


def with_word(mill, at, word):
    return (mill[0], bent(mill[1], at, word), *mill[2:])


def with_own(mill, **parts):
    return (mill[0], with_parts(mill[1], **parts), *mill[2:])


# For each sentence but "laid" a way to break it alone in SOUND.
BREAKS = {
    "led": lambda mill: ((mill[0][0][:3] + ((("@", 10), 5),) + mill[0][0][4:], *mill[0][1:]), *mill[1:]),
    "kept": lambda mill: with_own(mill, remembered=()),
    "moved": lambda mill: with_word(mill, 8, ("moved", 26)),
    "left": lambda mill: with_own(mill, left=mill[1][7] + 1),
    # A greater ARRAY here takes the words up to the end.
    "used": lambda mill: with_own(mill, free=44, words=mill[1][2][:32] + (("array", 11),) + mill[1][2][33:35] + (None,) * 9 + mill[1][2][44:]),
    "cells": lambda mill: (((*mill[0][0][:4], ("@", 30), ()), *mill[0][1:]), *mill[1:]),
}


class FormTest(unittest.TestCase):
    mill = (FRAMES, CALM, ("1", "array 2"), None)

    def check(self, wanted, **parts):
        own = dict(zip(("frames", "memory", "shown", "end"), self.mill))
        mill = tuple({**own, **parts}.values())
        self.assertIs(has_form(mill), wanted, parts)
        self.assertIs(has_form_plainly(mill), wanted, parts)
        # Lists may stand for tuples in all but a thing.
        if not has_form_plainly(tuple_of(mill)):
            for function in (breaches, is_sound, reached, reached_words, is_tight):
                self.assertEqual(told(function, mill), raised("Unfit"))

    def test_examples(self):
        check_file(self, "20")

    def test_good_ones(self):
        self.check(True)
        self.check(True, memory=GOES)
        self.check(True, memory=FULL)
        self.assertIs(has_form(thing=SOUND), True)
        self.assertIs(has_form(mill_begun(main("halt"), (0, 4, 1))), True)

    def test_frames(self):
        self.check(True, frames=())
        self.check(True, frames=(), end=("done",))
        self.check(True, end=("done",))
        self.check(False, frames=list(FRAMES))
        frame = (0, 3, (("@", 0), (), 7), (("@", 3), None), None, ((5, 1),))
        for at, good, wrong in (
            (0, (0, 1, 10 ** 30), (-1, True, None, "0", (), 1.0)),
            (1, (0, 1, 10 ** 30), (-1, True, None, "0", (), 1.0)),
            (2, ((), ((),), (("@", 1), ("@", 10 ** 9)), (None, True, "red", 10 ** 9)), ([], None, (10 ** 10,), ((1,),), ([],), (("cell",),), ("Red",))),
            (3, ((), (("@", 99), 5), ("a",)), ([], None, ((),), ((), 1), (("moved", 6),), (("free",),), ("",))),
            (4, (None, ("@", 0), ("@", 1), ("@", 10 ** 9)), ((), 0, "red", ["@", 6], True, ("@", -1), ("@", True))),
            (5, ((), ((0, 0),), ((10 ** 9, 10 ** 9), (0, 1))), ([], None, (0,), ((0,),), ((0, 0, 0),), ([0, 0],), ((-1, 0),), ((0, True),), ((None, 0),))),
        ):
            for own, wanted in [(own, True) for own in good] + [(own, False) for own in wrong]:
                self.check(wanted, frames=(frame[:at] + (own,) + frame[at + 1:],))
        for own in (frame[:5], frame + (0,), list(frame), None, ()):
            self.check(False, frames=(own,))

    def test_words(self):
        for word in (FREE, ("cell",), ("array", 0), ("array", 10 ** 9), ("function", 0, 5), ("moved", 0), ("moved", 10 ** 9), 7, -10 ** 9, True, None,
                     "red", ("@", 0), ("@", 10 ** 9)):
            for at in (0, 1, 5, 6, 29):
                self.check(True, memory=bent(CALM, at, word))
        for word in ((), [], ["free"], ["cell"], ("free", 1), ("cell", 1), ("array",), ("array", -1), ("array", True), ("array", None), ("function", 0),
                     ("function", -1, 0), ("function", 0, True), ("moved",), ("moved", -1), ("moved", True), ("moved", None), ("moved", 1, 1), 10 ** 9 + 1,
                     "Red", "", ("@",), ("@", -1), ("@", 0, 0), (("free",),), nested(50), ("what",), (None,), (1,), 1.0):
            for at in (0, 5, 29):
                self.check(False, memory=bent(CALM, at, word))

    def test_parts(self):
        for part, good, wrong in (
            ("room", (12,), (11, 13, -1, True, None, "12", 10 ** 5000)),
            ("nursery", (6,), (5, 7, 3, 0, -1, True, None)),
            ("words", (CALM[2], (FREE,) * 30), (list(CALM[2]), CALM[2][:29], CALM[2] + (FREE,), None, ())),
            ("young", range(7), (-1, 7, None, True, "5")),
            ("half", (0,), (1, 2, -1, None, True, False)),
            ("free", range(10, 19), (-1, 5, 6, 9, 19, None, True)),
            ("scan", (None, *range(6, 14)), (5, 14, 0, -1, True, "6", ())),
            ("left", range(13), (-1, 13, None, True)),
            ("remembered", ((), (6,), (12,), (6, 9, 12), (7, 8)), ((5,), (13,), (9, 9), (9, 8), [9], (True,), None, ("9",), ((9,),), 9, (-1,))),
        ):
            for own, wanted in [(own, True) for own in good] + [(own, False) for own in wrong]:
                self.check(wanted, memory=with_parts(CALM, **{part: own}))
        self.check(True, memory=with_parts(CALM, half=1, free=30, remembered=()))
        self.check(True, memory=with_parts(CALM, half=1, free=18, remembered=()))
        self.check(False, memory=with_parts(CALM, half=1, free=31, remembered=()))
        for memory in (list(CALM), CALM[:8], CALM + (None,), None, ()):
            self.check(False, memory=memory)
        self.check(False, memory=with_parts(memory_begun(3, 3)))
        self.check(True, memory=with_parts(memory_begun(0, 4), half=1, young=3, scan=4))

    def test_shown_and_ends(self):
        for shown, wanted in (((), True), (("",), True), (("anything", "x y", "\n"), True), ([], False), (["1"], False), ((1,), False),
                              ((None,), False), ("1", False), (None, False), ((("1",),), False)):
            self.check(wanted, shown=shown)
        for end in (None, ("done",), ("failed", "kind"), ("failed", ""), ("failed", "any string")):
            self.check(True, end=end)
            self.check(True, end=end, frames=())
        for end in ((), ("done", 1), ("failed",), ("failed", 1), ("failed", None), ("failed", "kind", 1), ("going",), ["done"], ["failed", "kind"],
                    "done", True, False, 0, (None,), (("done",),)):
            self.check(False, end=end)
            self.check(False, end=end, frames=())

    def test_other_things(self):
        for thing in STRANGE:
            self.assertIs(has_form(thing), False)
            for function in (breaches, is_sound, reached, reached_words, is_tight):
                self.assertEqual(told(function, thing), raised("Unfit"))
            for part in parts_of(CALM):
                self.assertIs(has_form((FRAMES, with_parts(CALM, **{part: thing}), (), None)), has_form_plainly((FRAMES, with_parts(CALM, **{part: thing}), (), None)))
        for thing in (SOUND[:3], SOUND + (None,), list(SOUND), (SOUND,), nested(100)):
            self.assertIs(has_form(thing), False)
            self.assertEqual(told(breaches, thing), () if thing == list(SOUND) else raised("Unfit"))


class SentencesTest(unittest.TestCase):
    def check(self, mill, *wanted):
        self.assertIs(has_form(mill), True)
        for own in (mill, lists_of(mill)):
            self.assertEqual(breaches(own), wanted)
            self.assertIs(is_sound(own), wanted == ())
            for function in (reached, reached_words, is_tight):
                if wanted:
                    self.assertEqual(told(function, own), raised("Unfit"))
                else:
                    self.assertNotEqual(told(function, own), raised("Unfit"))
        self.assertEqual(breaches(mill=mill), breaches_plainly(mill))
        self.assertIs(is_sound(mill=mill), wanted == ())

    def test_sound_ones(self):
        self.check(SOUND)
        self.check((BARE, CALM, (), None))
        self.check((BARE, GOES, (), None))
        # Whatever FRAMES are beside an end.
        self.check((*SOUND[:3], ("done",)))
        self.check(((), *SOUND[1:]))

    def test_laid(self):
        for at, word in ((0, FREE), (0, ("array", 2)), (0, ("array", 0)), (1, ("cell",)), (1, FREE), (1, ("moved", 26)), (2, 7), (5, ("cell",)),
                         (0, ("moved", 26)), (0, ("function", 1, 2)), (26, FREE), (26, ("cell",) + ()), (27, ("cell",)), (28, ("moved", 26)), (31, 7), (31, None),
                         (30, ("array", 5)), (32, ("array", 1)), (32, ("array", 3)), (35, 0), (45, ("@", 26)), (45, ("array", 0)),
                         (6, FREE), (6, ("moved", 27)), (6, ("moved", 32)), (6, ("moved", 6)), (6, ("moved", 10)), (6, ("moved", 0)), (6, ("moved", 10 ** 9)), (7, FREE),
                         (7, ("cell",)), (10, ("array", 5)), (12, ("array", 14)), (12, 5), (14, 5), (14, ("@", 26)), (20, ("array", 0)), (6, ("moved", 30))):
            mill = with_word(SOUND, at, word)
            if mill != SOUND:
                self.check(mill, "laid")
        self.check(with_own(SOUND, young=1), "laid")
        self.check(with_own(SOUND, young=3), "laid")
        self.check(with_own(SOUND, free=36), "laid")
        self.check(with_own(SOUND, free=34, remembered=()), "laid")
        self.check(with_own(SOUND, scan=None), "laid")
        # A moved FUNCTION has REFERENCES behind it.
        mill = with_own(SOUND, words=FULL[2][:10] + (("moved", 30), ("@", 6)) + FULL[2][12:], left=2)
        self.check(mill, "cells")
        self.check(with_word(mill, 11, 5), "laid")
        # Alone, whatever else is broken.
        for name, broken in BREAKS.items():
            self.check(with_word(broken(SOUND), 5, 7), "laid")

    def test_each_sentence_by_itself(self):
        for name, broken in BREAKS.items():
            self.check(broken(SOUND), name)

    def test_each_beside_each_other_one(self):
        for one, other in itertools.combinations(BREAKS, 2):
            mill = BREAKS[other](BREAKS[one](SOUND)) if one != "led" else BREAKS[one](BREAKS[other](SOUND))
            self.check(mill, one, other)

    def test_all(self):
        mill = SOUND
        for name in ORDER[:0:-1]:
            mill = BREAKS[name](mill)
        self.check(mill, *ORDER[1:])

    def test_led(self):
        def frames(**turned):
            frame = dict(zip(("code", "place", "slots", "stack", "function", "guards"), FRAMES[0]), **turned)
            return ((tuple(frame.values()), FRAMES[1]), *SOUND[1:])

        for address in (1, 2, 6, 8, 10, 12, 27, 35, 45, 46, 10 ** 9):
            self.check(frames(slots=((), ("@", address))), "led")
            self.check(frames(stack=(5, ("@", address))), "led")
        for address in (0, 26, 28, 30, 32):
            self.check(frames(slots=((), ("@", address))))
            self.check(frames(stack=(5, ("@", address))))
            # In the nursery, and here ahead of scan.
            self.check(with_word(SOUND, 1, ("@", address)))
            self.check(with_own(with_word(SOUND, 27, ("@", address)), remembered=(34,) if address else (27, 34)))
            self.check(with_own(with_word(SOUND, 33, ("@", address)), remembered=(34,) if address else (33, 34)))
            # In OBJECTS there that are not moved to none that is near.
            self.check(with_word(SOUND, 11, ("@", address)), "led")
            self.check(with_word(SOUND, 13, ("@", address)), "led")
            self.check(with_word(SOUND, 7, ("@", address)))
        for address in (6, 8, 10, 12):
            self.check(with_word(SOUND, 1, ("@", address)), "led")
            self.check(with_word(SOUND, 27, ("@", address)), "led")
            self.check(with_word(SOUND, 33, ("@", address)))
            self.check(with_word(SOUND, 11, ("@", address)))
            self.check(with_word(SOUND, 13, ("@", address)))
        for address in (1, 7, 14, 27, 35, 46, 10 ** 9):
            for at in (1, 27, 33, 11, 13):
                kept = tuple(sorted({34, at})) if at in (27, 33) and address < 6 else (34,)
                self.check(with_own(with_word(SOUND, at, ("@", address)), remembered=kept), "led")
            self.check(with_word(SOUND, 7, ("@", address)))
        # scan tells how far all is looked at.
        for scan, wanted in ((26, True), (27, True), (31, True), (32, False), (33, False), (34, False), (35, False)):
            self.check(with_own(SOUND, scan=scan), *(() if wanted else ("led",)))
        calm = with_own(SOUND, scan=None, left=0, words=FULL[2][:6] + (FREE,) * 20 + FULL[2][26:])
        self.check(calm, "led", "cells")
        self.check(with_word(with_word(calm, 31, ("@", 28)), 33, ("@", 30)))
        self.check(with_own(with_word(with_word(calm, 31, ("@", 28)), 33, ("@", 30)), remembered=()), "kept")

    def test_kept(self):
        for remembered in ((), (33,), (33, 34), (27, 34), (26,), (30,)):
            self.check(with_own(SOUND, remembered=remembered), "kept")
        self.check(with_word(SOUND, 34, ("@", 26)), "kept")
        self.check(with_own(with_word(SOUND, 34, ("@", 26)), remembered=()))
        self.check(with_word(SOUND, 33, ("@", 0)), "kept")
        # REFERENCES with an address of the nursery, whatever is there.
        self.check(with_word(SOUND, 33, ("@", 5)), "led", "kept")
        self.check(with_own(with_word(SOUND, 33, ("@", 5)), remembered=(33, 34)), "led")
        self.check(with_own(with_word(SOUND, 34, ("@", 5))), "led")

    def test_left_and_used(self):
        for left in (0, 1, 3, 5, 9):
            self.check(with_own(SOUND, left=left), "left")
        for left in (10, 20):
            self.check(with_own(SOUND, left=left), "left", "used")
        self.check((BARE, with_parts(memory_begun(9, 4), left=1), (), None), "left")
        self.check((BARE, with_parts(memory_begun(9, 4), left=9), (), None), "left")
        full = (4, 4, (("cell",), 1, FREE, FREE, ("cell",), 1, *[FREE] * 6), 2, 0, 6, None, 0, ())
        self.check((BARE, full, (), None))
        self.check((BARE, with_parts(full, left=1), (), None), "left", "used")
        self.check((BARE, with_parts(full, words=(("array", 2), 1, 2) + full[2][3:], young=3), (), None), "used")

    def test_cells(self):
        # In a FUNCTION here, in one of the nursery, in one there that is not moved.
        for address, wanted in ((26, ()), (28, ()), (10, ()), (6, ()), (8, ()), (0, ()), (30, ("cells",)), (32, ("cells",)), (12, ("cells",)),
                                (27, ("led", "cells")), (45, ("led", "cells")), (10 ** 9, ("led", "cells"))):
            mill = with_own(with_word(SOUND, 31, ("@", address)), remembered=(34,) if address else (31, 34))
            self.check(mill, *wanted)
            mill = with_own(SOUND, words=(("function", 1, 1), ("@", address)) + FULL[2][2:])
            near = address in (0, 26, 28, 30, 32)
            own = address if address else 26
            mill = with_own(SOUND, words=(("function", 1, 1), ("@", own)) + FULL[2][2:])
            self.check(mill, *(() if near else ("led",)), *(("cells",) if own not in (6, 8, 10, 26, 28) else ()))
        there = with_own(SOUND, words=FULL[2][:14] + (("function", 1, 1), ("@", 10)) + FULL[2][16:], left=6)
        self.check(there)
        self.check(with_word(there, 15, ("@", 6)))
        self.check(with_word(there, 15, ("@", 12)), "cells")
        self.check(with_word(there, 15, ("@", 14)), "cells")
        self.check(with_word(there, 15, ("@", 26)), "led")
        # A FUNCTION that is moved may have anything behind it.
        gone = with_own(SOUND, words=FULL[2][:14] + (("moved", 30), ("@", 12)) + FULL[2][16:])
        self.check(gone)
        self.check(with_word(gone, 15, ("@", 10 ** 9)))

    def test_functions_of_frames(self):
        def check(wanted, *functions, codes=(0, 1, 1), mill=SOUND):
            frames = tuple((code, 0, (), (), own, ()) for code, own in zip(codes, functions))
            self.check((frames, *mill[1:]), *wanted)

        check((), None)
        check((), None, ("@", 30), ("@", 30))
        check((), None, codes=(5,))
        check(("cells",), ("@", 30))
        check(("cells",), ("@", 30), codes=(1,))
        check(("cells",), None, None)
        check(("cells",), None, ("@", 30), None)
        check(("cells",), None, ("@", 26))
        check(("cells",), None, ("@", 32))
        check(("cells",), None, ("@", 30), codes=(0, 2))
        check(("cells",), None, ("@", 30), codes=(0, 0))
        check(("led", "cells"), None, ("@", 31))
        check(("led", "cells"), None, ("@", 10 ** 9))
        # One there, moved or not, is led to wrongly alone.
        there = with_own(SOUND, words=FULL[2][:14] + (("function", 1, 1), ("@", 10)) + FULL[2][16:], left=6)
        check(("led",), None, ("@", 14), mill=there)
        check(("led", "cells"), None, ("@", 14), codes=(0, 2), mill=there)
        gone = with_own(SOUND, words=FULL[2][:14] + (("moved", 30), ("@", 12)) + FULL[2][16:])
        check(("led",), None, ("@", 14), mill=gone)
        check(("led", "cells"), None, ("@", 14), codes=(0, 2), mill=gone)


class ReachedTest(unittest.TestCase):
    def check(self, mill, addresses, words, tight):
        for own in (mill, lists_of(mill)):
            self.assertEqual(reached(own), addresses)
            self.assertEqual(reached_words(own), words)
            self.assertIs(is_tight(own), tight)
        self.assertEqual((reached(mill=mill), reached_words(mill=mill), is_tight(mill=mill)), (addresses, words, tight))
        self.assertEqual(addresses, tuple(sorted(order_plainly(mill))))

    def mill(self, memory, *slots):
        return (((0, 0, slots, (), None, ()),), memory, (), None)

    def test_amid_a_collection(self):
        # The moved CELLS are told by 26 and 28, that at 10 and the ARRAY at 12 as they lie.
        self.check(SOUND, (0, 10, 26, 28, 30), 10, False)
        self.check(self.mill(FULL, ("@", 32)), (0, 10, 12, 26, 28, 32), 13, False)
        self.check(self.mill(FULL), (), 0, False)
        self.check(self.mill(GOES, ("@", 18)), (8, 10, 18), 7, False)

    def test_calm(self):
        calm = with_parts(CALM, words=CALM[2][:7] + (("@", 11),) + CALM[2][8:])
        sound = with_parts(calm, words=CALM[2][:6] + (("array", 1),) + CALM[2][7:])
        self.check(self.mill(sound, ("@", 11), ("@", 3)), (0, 3, 6, 8, 11), 12, True)
        self.check(self.mill(sound, ("@", 3)), (0, 3, 8), 8, False)
        self.check(self.mill(sound, ("@", 6)), (6, 11), 4, False)
        self.check(self.mill(sound), (), 0, False)
        self.check(self.mill(memory_begun(5, 4)), (), 0, True)
        self.check(self.mill(memory_begun(0, 4), 7, ()), (), 0, True)
        # All is reached, but a collection goes on.
        self.check(self.mill(with_parts(memory_begun(5, 4), scan=4)), (), 0, False)
        self.check(self.mill(with_parts(sound, scan=13), ("@", 11), ("@", 3)), (0, 3, 6, 8, 11), 12, False)
        self.check(((), sound, (), ("done",)), (), 0, False)


class RandomTest(unittest.TestCase):
    def mills(self):
        chance = random.Random(20)
        for seed in range(40):
            for program in (compiled_program(seed), shaped_program(seed), bent_program(seed), grown_program(seed, 20), BUSY[seed % len(BUSY)]):
                limits = (chance.choice((8, 12, 20, 40)), chance.choice((4, 6, 9)), 5)
                schedule = tuple(chance.choice((0, 1, 2, 5)) for _ in range(3))
                most = len(states_until(program, limits, 60)) - 1
                yield program, mills_along(program, limits, schedule, most)

    def test_bent_ones(self):
        counts = {}
        for program, mills in self.mills():
            taken = is_taken(program)
            for at, mill in enumerate(mills):
                self.assertIs(has_form(mill), True)
                told_of = breaches(mill)
                self.assertEqual(told_of, breaches_plainly(mill))
                if taken:
                    self.assertEqual(told_of, ())
                else:
                    self.assertLessEqual(set(told_of), {"cells"})
                bender = MillBender(at)
                for _ in range(3):
                    bent_mill = bender.bent(mill)
                    if at % 3 == 0 and has_form_plainly(bent_mill):
                        bent_mill = bender.bent(bent_mill)
                    form = has_form_plainly(bent_mill)
                    self.assertIs(has_form(bent_mill), form, bent_mill)
                    if not form:
                        self.assertIs(is_mill(bent_mill), False)
                        continue
                    found = breaches(bent_mill)
                    self.assertEqual(found, breaches_plainly(bent_mill))
                    self.assertEqual(found, tuple(name for name in ORDER if name in found))
                    counts[found] = counts.get(found, 0) + 1
        for name in ("laid", "led", "kept", "moved", "left", "cells"):
            self.assertGreater(counts.get((name,), 0), 3, counts)

    def test_reached(self):
        for program, mills in self.mills():
            if not is_taken(program):
                continue
            for mill in mills[::3]:
                order = order_plainly(mill)
                self.assertEqual(reached(mill), tuple(sorted(order)))
                self.assertLessEqual(reached_words(mill), used_words(mill[1]))
                memory, roots = whole(mill[1], roots_of(mill[0]))
                behind = (with_roots(mill[0], roots), memory, *mill[2:])
                self.assertIs(is_tight(behind), True)
                self.assertEqual(reached_words(behind), used_words(memory))
                self.assertEqual(reached_words(behind), reached_words(mill))


if __name__ == "__main__":
    unittest.main()
