"""What the document promises over the whole program: a text means one thing, however it is run."""

import random
import unittest

from gathermill.checker import is_taken
from gathermill.codes import program_read, program_text
from gathermill.compiler import compiled, compiled_text
from gathermill.desk import desk
from gathermill.images import image_of, mill_read
from gathermill.judge import comes_of, is_paper_for, is_so, paper
from gathermill.machine import run_plain
from gathermill.meaning import meaning_of
from gathermill.mill import mill_begun, mill_stepped, run_mill
from gathermill.reader import tree_of
from gathermill.rooms import least_room, needs, peak
from gathermill.trees import tree_text
from gathermill.trimming import trimmed
from tests.random_trees import random_program

DEEP = 200
MOST = 3000


class TogetherTest(unittest.TestCase):
    def runs(self):
        """Texts whose runs end, with their OUTCOMES and PROGRAMS."""
        for seed in range(1000, 1200):
            tree = random_program(seed, 3)
            outcome = meaning_of(tree, 1500)
            program = compiled(tree)
            if outcome[1] != ("going",) and run_plain(program, (10 ** 6, 4, DEEP), MOST)[1] != ("going",):
                yield seed, tree_text(tree), outcome, program

    def test_all_runs_are_alike(self):
        ends = {}
        for seed, text, outcome, program in self.runs():
            chance = random.Random(seed)
            self.assertEqual(compiled_text(text), program)
            self.assertEqual(meaning_of(tree_of(text), 1500), outcome)
            self.assertIs(is_taken(program), True)
            short = trimmed(program_read(program_text(program)))
            least = least_room(program, DEEP, MOST)
            self.assertEqual([need for _, need in needs(short, DEEP, MOST)], [need for _, need in needs(program, DEEP, MOST)])
            self.assertLessEqual(peak(program, DEEP, MOST), least)
            for room in (least, least + 1, 10 * least + 5):
                for own in (program, short):
                    self.assertEqual(run_plain(own, (room, 4, DEEP), MOST), outcome)
                    schedule = tuple(chance.choice((0, 0, 1, 2, 9)) for _ in range(chance.randrange(1, 5)))
                    self.assertEqual(run_mill(own, (room, chance.choice((4, 5, 12, 40)), DEEP), schedule, MOST), outcome)
            if least:
                less = (least - 1, chance.choice((4, 9)), DEEP)
                refused = run_plain(program, less, MOST)
                self.assertEqual(run_mill(program, less, (chance.randrange(9), 0, 1), MOST), refused)
                self.assertEqual(run_mill(short, less, (1, chance.randrange(9)), MOST), refused)
            ends[outcome[1][0], bool(least)] = ends.get((outcome[1][0], bool(least)), 0) + 1
        self.assertGreater(min(ends.values()), 5, ends)
        self.assertEqual(len(ends), 4)

    def test_runs_go_on_from_images(self):
        for seed, _, outcome, program in list(self.runs())[::4]:
            chance = random.Random(seed)
            limits = (least_room(program, DEEP, MOST), chance.choice((4, 7)), DEEP)
            mill = mill_begun(program, limits)
            while mill[3] is None:
                mill = mill_stepped(program, mill, limits, chance.choice((0, 0, 1, 5)))
                if chance.randrange(10) == 0:
                    mill = mill_read(image_of(mill))
            self.assertEqual(mill[2:], outcome)

    def test_desks_tell_the_same(self):
        for seed, text, outcome, program in list(self.runs())[::4]:
            least = least_room(program, DEEP, MOST)
            asked = f"limits {least} 4 {DEEP}\nschedule 0 {seed % 7}\ntext\n " + text.replace("\n", "\n ") + f"\nturn {MOST}\nshown\nend"
            self.assertEqual(desk(asked), ["done"] * 4 + ["\n".join(outcome[0]) or "-", " ".join(outcome[1])])

    def test_claims_are_so(self):
        for seed, _, outcome, program in list(self.runs())[::4]:
            least = least_room(program, DEEP, MOST)
            fits = ("fits", program, DEEP, MOST, least)
            ends = ("ends", program, (least, 4, DEEP), MOST, outcome)
            more = ("ends", program, (least + seed, 4 + seed, DEEP), MOST + seed, outcome)
            for claim in (("taken", program), ("short", trimmed(program)), fits, ends, more):
                self.assertIs(is_so(claim), True)
                self.assertIs(is_paper_for(claim, paper(claim)), True)
            self.assertIs(comes_of(more, (fits, ends)), True)
            if least:
                self.assertIs(is_so((*fits[:4], least - 1)), False)


if __name__ == "__main__":
    unittest.main()
