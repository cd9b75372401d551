"""Section 23 of the document: judge.py."""

import itertools
import random
import unittest

from gathermill.checker import bar, is_bar, is_table, is_taken, table_of
from gathermill.compiler import compiled_text
from gathermill.judge import (
    comes_of, first_false, is_claim, is_paper_against, is_paper_for, is_so, paper, verdicts,
)
from gathermill.machine import canon, live, run_plain, states_along
from gathermill.memory import memory_begun
from gathermill.mill import mill_begun, mills_along
from gathermill.rooms import first_refused, least_room
from gathermill.sights import is_parting, parting, same_sight
from gathermill.trimming import trimmed, trims
from tests.examples_of_document import check_file
from tests.programs import STRANGE, lists_of, made, main, nested, raised, told
from tests.random_codes import bent_program, compiled_program, shaped_program
from tests.reference_judge import NURSERIES, all_that_come
from tests.test_memory import CALM, GOES
from tests.test_mill import BUSY

BARE = main("array 0; show; halt")
REFUSED = main("pop; halt")
WASTE = main("constant number 1; pop; halt")
# Its OBJECTS: 0 leads to 1, 2 to 0 and to 3, 3 to 2 and to itself; the FRAMES lead to 0 and 4; 5 leads to 4.
HELD = (((0, 0, (("@", 0), ()), (7,), None, ()), (9, 9, (), (("@", 0),), ("@", 4), ((1, 5),))),
        (("cell", ("@", 1)), ("array", ()), ("array", (("@", 0), ("@", 3))), ("function", 5, (("@", 2), ("@", 3))), ("cell", True),
         ("array", (None, ("@", 4)))), ("any string",), None)
MILL = (((0, 0, (("@", 3), 1), (), None, ()),), CALM, ("x",), None)
OTHER = (((0, 0, (("@", 3), True), (), None, ()),), CALM, ("x",), None)
THIRD = (((0, 0, (("@", 18), 1), (), None, ()),), GOES, (), None)
LIMITS = (9, 4, 1)
DONE = (("array 0",), ("done",))
CLAIMS = (
    ("taken", BARE), ("taken", REFUSED), ("live", HELD, 1), ("live", HELD, 3), ("same", MILL, MILL), ("same", MILL, OTHER),
    ("short", BARE), ("short", WASTE), ("fits", BARE, 1, 3, 1), ("fits", BARE, 1, 3, 0), ("ends", BARE, LIMITS, 3, DONE),
    ("ends", BARE, LIMITS, 2, DONE),
)


def is_one(one, other):
    """Whether two things are one: True is not 1, a list no tuple."""
    if isinstance(one, (list, tuple)) and type(one) is type(other) and len(one) == len(other):
        return all(is_one(mine, yours) for mine, yours in zip(one, other))
    return type(one) is type(other) and one == other


class JudgeCase(unittest.TestCase):
    def check(self, claim, so, good=(), bad=()):
        """Whether a CLAIM is so; PAPERS of its side, and things that are none."""
        for own in (claim, lists_of(claim)):
            self.assertIs(is_so(own), so)
            told_paper = paper(own)
            self.assertIs(is_paper_for(own, told_paper), so)
            self.assertIs(is_paper_against(own, told_paper), not so)
            for thing in good:
                self.assertIs(is_paper_for(own, thing), so, thing)
                self.assertIs(is_paper_against(own, thing), not so, thing)
            for thing in (*bad, *STRANGE, nested(100)):
                if not any(is_one(thing, other) for other in (*good, told_paper)):
                    self.assertIs(is_paper_for(own, thing), False, thing)
                    self.assertIs(is_paper_against(own, thing), False, thing)
        self.assertIs(is_claim(claim), True)
        self.assertIs(is_so(claim=claim), so)
        self.assertEqual(paper(claim=claim), told_paper)
        self.assertIs(is_paper_for(claim=claim, thing=told_paper), so)
        self.assertIs(is_paper_against(thing=told_paper, claim=claim), not so)
        self.assertNotIn("[", repr(told_paper))


class ClaimTest(unittest.TestCase):
    def check(self, wanted, *claims):
        for claim in claims:
            self.assertIs(is_claim(claim), wanted, claim)
            if not wanted:
                for function, more in ((is_so, ()), (paper, ()), (is_paper_for, ((),)), (is_paper_against, ((),)), (comes_of, ((),))):
                    self.assertEqual(told(function, claim, *more), raised("Unfit"), claim)
                for claims_of in ((claim,), (CLAIMS[0], claim), [claim, CLAIMS[1]]):
                    self.assertEqual(told(first_false, claims_of), raised("Unfit"))
                    self.assertEqual(told(verdicts, claims_of, (None,) * len(claims_of)), raised("Unfit"))
                    self.assertEqual(told(comes_of, CLAIMS[0], claims_of), raised("Unfit"))

    def test_examples(self):
        check_file(self, "23")

    def test_good_ones(self):
        self.check(True, *CLAIMS)
        for claim in CLAIMS:
            self.assertIs(is_claim(thing=claim), True)

    def test_lists_are_no_tuples(self):
        for claim in CLAIMS:
            self.assertIs(is_claim(list(claim)), False)
            self.assertIs(is_claim(lists_of(claim)), False)
            for at in range(1, len(claim)):
                if isinstance(claim[at], tuple):
                    self.assertIs(is_claim(claim[:at] + (lists_of(claim[at]),) + claim[at + 1:]), False)
                    self.assertIs(is_claim(claim[:at] + (list(claim[at]),) + claim[at + 1:]), False)

    def test_lengths_and_words(self):
        for claim in CLAIMS:
            self.check(False, claim[:-1], claim + (0,), claim + ((),), claim[:1], (claim,), ("other",) + claim[1:], (None,) + claim[1:], (("taken",),) + claim[1:],
                       ("Taken",) + claim[1:], claim[1:], ([],) + claim[1:], ([claim[0]],) + claim[1:], (("taken", []),) + claim[1:])
        for one, other in itertools.permutations(CLAIMS, 2):
            if one[0] != other[0] and (one[0], other[0]) not in (("taken", "short"), ("short", "taken")):
                self.check(False, (one[0],) + other[1:])

    def test_other_things(self):
        self.check(False, *STRANGE)
        for claim in CLAIMS:
            for at in range(1, len(claim)):
                for thing in STRANGE:
                    # A number from 0 may stand for a number from 0.
                    if not (type(claim[at]) is int and type(thing) is int and thing >= 0):
                        self.check(False, claim[:at] + (thing,) + claim[at + 1:])

    def test_programs(self):
        for word, more in (("taken", ()), ("short", ()), ("fits", (1, 3, 1)), ("ends", (LIMITS, 3, DONE))):
            self.check(word == "taken", (word, REFUSED, *more))
            for program in (((0, 0, 0, ()),), ((1, 1, 0, (("halt",),)),), ((0, 0, 0, (("halt",),), 0),), ((0, 0, 0, (("stop",),)),), (),
                            ((0, True, 0, (("halt",),)),), ((0, 0, 0, (("constant", 10 ** 10), ("pop",), ("halt",))),)):
                self.check(False, (word, program, *more))
            # However many slots, and whatever may not fit into bounds.
            for slots in (10 ** 3, 10 ** 12, 10 ** 30):
                self.assertIs(is_claim((word, ((0, slots, 0, (("constant", 1), ("store", 5), ("load", 5), ("show",), ("halt",))),), *more)), True)
                self.assertIs(is_claim((word, ((0, slots, 0, (("load", 5), ("show",), ("halt",))),), *more)), word == "taken")
                self.assertIs(is_claim((word, ((0, 0, 0, (("halt",),)), (slots, slots, slots, (("load", 7), ("return",)))), *more)), True)

    def test_states(self):
        frame, second = HELD[0]
        self.check(True, ("live", HELD, 0), ("live", HELD, 5), ("live", ((), HELD[1], (), ("done",)), 2), ("live", ((), HELD[1], (), ("failed", "any")), 2))
        self.check(False, ("live", HELD, 6), ("live", HELD, -1), ("live", HELD, True), ("live", HELD, None), ("live", HELD, 10 ** 30),
                   ("live", (HELD[0], (), (), None), 0), ("live", ((frame,), HELD[1][:1], (), None), 0), ("live", HELD[:3], 0), ("live", (*HELD, 0), 0))
        # FRAMES are there exactly as long as the run goes on.
        self.check(False, ("live", (*HELD[:3], ("done",)), 0), ("live", ((), *HELD[1:]), 0))
        for shown, wanted in (((), True), (("", "x y\n"), True), ((1,), False), ("x", False), ((None,), False)):
            self.check(wanted, ("live", (*HELD[:2], shown, None), 0))
        for end in (("going",), ("done", 1), ("failed",), ("failed", 1), True, ()):
            self.check(False, ("live", ((), *HELD[1:3], end), 0))
        for at, good, wrong in (
            (0, (0, 10 ** 30), (-1, True, None)), (1, (0, 10 ** 30), (-1, True, None)),
            (2, ((), ((), None), (("@", 5),)), ((("@", 6),), (10 ** 10,), None, ((1,),))),
            (3, ((), (("@", 5), "red")), (((),), (("@", 6),), None, ("Red",))),
            (4, (None, ("@", 0), ("@", 5)), (("@", 6), 0, (), True)),
            (5, ((), ((0, 0), (9, 9))), (None, ((0,),), ((0, -1),), (0,))),
        ):
            for own, wanted in [(own, True) for own in good] + [(own, False) for own in wrong]:
                turned = frame[:at] + (own,) + frame[at + 1:]
                self.check(wanted, ("live", ((turned,), *HELD[1:]), 0), ("live", ((frame, turned), *HELD[1:]), 0))
        for item, wanted in ((("array", (("@", 5),)), True), (("array", (("@", 6),)), False), (("cell", ("@", 6)), False), (("cell", ()), False),
                             (("function", 0, (("@", 5),)), True), (("function", 0, (("@", 6),)), False), (("function", 0, (1,)), False),
                             (("function", -1, ()), False), (("array", 1), False), (("row", ()), False), (("cell", 1, 1), False), ((), False), (None, False)):
            self.check(wanted, ("live", (HELD[0], HELD[1][:5] + (item,), (), None), 5))

    def test_mills(self):
        self.check(True, ("same", MILL, THIRD), ("same", ((), CALM, (), ("done",)), mill_begun(BARE, LIMITS)))
        for wrong in ((MILL[0], GOES, (), None), (*MILL[:3], ("done",)), ((), *MILL[1:]), MILL[:3], (MILL[0], CALM[:8], (), None), None, HELD):
            self.check(False, ("same", wrong, MILL), ("same", MILL, wrong))

    def test_numbers(self):
        for at in (2, 3, 4):
            for own in (0, 1, 5, 10 ** 30):
                claim = CLAIMS[8][:at] + (own,) + CLAIMS[8][at + 1:]
                self.assertIs(is_claim(claim), at > 2 or own > 0)
            for own in (-1, True, False, None, "1", 1.0, (), (1,)):
                self.check(False, CLAIMS[8][:at] + (own,) + CLAIMS[8][at + 1:])
        for own in (0, 5, 10 ** 30):
            self.assertIs(is_claim(("ends", BARE, LIMITS, own, DONE)), True)
        for own in (-1, True, None, "3", ()):
            self.check(False, ("ends", BARE, LIMITS, own, DONE))

    def test_limits(self):
        for limits, wanted in (((0, 4, 1), True), ((10 ** 30, 10 ** 30, 10 ** 30), True), ((0, 3, 1), False), ((0, 4, 0), False), ((-1, 4, 1), False),
                               ((True, 4, 1), False), ((0, 4, True), False), ((0, None, 1), False), ((0, 4), False), ((0, 4, 1, 1), False), ((), False), (None, False)):
            self.check(wanted, ("ends", BARE, limits, 3, DONE)) if not wanted else self.assertIs(is_claim(("ends", BARE, limits, 3, DONE)), True)

    def test_outcomes(self):
        for outcome, wanted in ((((), ("going",)), True), ((("a", "b"), ("failed", "kind")), True), (((), ("done",)), True), (((), ("failed",)), False),
                                (((), ("failed", None)), False), (((), None), False), (((), ("done", 1)), False), (((), ("going", 1)), False), (((),), False),
                                (((), ("done",), 1), False), (((1,), ("done",)), False), (("a", ("done",)), False), ((None, ("done",)), False), (((), ("Done",)), False),
                                (((), "done"), False), (((), ("failed", "a", "b")), False), ((), False), (((), ()), False), (((), (None,)), False)):
            self.check(wanted, ("ends", BARE, LIMITS, 3, outcome))


class PapersTest(JudgeCase):
    def test_taken(self):
        table = table_of(BARE)
        self.check(("taken", BARE), True, (table,), (lists_of(table), [*table], table + table, table[:0], table[0], (0, ((0, "on"),)), (None,), ((None,) * 3,),
                                                     (table[0][:2],), ((*table[0][:2], ((), 1, ())),)))
        more = main("jump 1; halt; constant number 1; halt")
        self.check(("taken", more), True, (table_of(more), ((((), 0, ()), ((), 0, ()), ((), 5, ()), ((), 6, ())),)),
                   (((((), 0, ()), ((), 0, ()), ((), 5, ()), ((), 5, ())),),))
        self.check(("taken", REFUSED), False, ((0, ((0, "on"),)),),
                   ([0, ((0, "on"),)], (0, [(0, "on")]), (0, ([0, "on"],)), (1, ((0, "on"),)), (0, ((1, "on"),)), (0, ((0, "lack"),)), (0, ()), (False, ((0, "on"),)),
                    (0, ((0, "on"), (1, "on"))), ((None, ((), 0, ())),), ((((), 0, ()), ((), 0, ())),), (0, ((0, "on"),), ((0, "on"),))))
        forked = main("constant truth true; unless 3; constant number 1; halt")
        short, long = ((0, "on"), (1, "on"), (3, "on")), ((0, "on"), (1, "on"), (2, "on"), (3, "on"))
        self.check(("taken", forked), False, ((0, short, long), (0, long, short)), ((0, short, short), (0, short), (0, long), (0, short[:2], long[:2]), [0, short, long]))

    def test_live(self):
        for number in (0, 1, 4):
            self.check(("live", HELD, number), True, {0: ((0,),), 1: ((0, 1),), 4: ((4,),)}[number],
                       ((), (1,), (0, 0), (0, 1, 1), (0, 2), (5, 4), (2, 0), (0, 1, 0), (4, 4), [0, 1], [0], [4], (0, True), (0, 6), (6,), (-6,), (0, -5), (False, 1),
                        (0, 1, 4), (0, 4), (1, 0), (0, 1, 2, 3, 4, 5), (0, 6, number), (0, 10 ** 30, number), (0, -6, number), (6, number)))
        every = (0, 1, 2, 3, 4, 5)
        for number in (2, 3, 5):
            good = [own for size in range(7) for own in itertools.combinations(every, size)
                    if number not in own and {0, 1, 4} <= set(own) and not (2 in own and 3 not in own) and not (3 in own and 2 not in own)]
            bad = [own for size in range(7) for own in itertools.combinations(every, size) if own not in good]
            self.check(("live", HELD, number), False, good, (*bad, [0, 1, 4], (1, 0, 4), (0, 0, 1, 4), (0, 1, 4, 6), (False, 1, 4), (0, True, 4), ((0, 1, 4),), (0, 1, 4, None)))
            self.assertTrue(good)
        # PAPERS of the other side.
        self.check(("live", HELD, 2), False, (), ((0, 2), (2,), (0, 1, 2)))
        self.check(("live", HELD, 1), True, (), ((0, 4), (0, 2, 3, 4, 5), ()))
        # Rings, and what a FUNCTION of a FRAME leads to.
        ring = (((0, 0, (), (), None, ()), (1, 0, (), (), ("@", 3), ())), HELD[1], (), None)
        self.check(("live", ring, 1), True, ((3, 2, 0, 1), (3, 3, 2, 3, 2, 0, 1)), ((3, 0, 1), (2, 0, 1), (3, 2, 1)))
        self.check(("live", ((), HELD[1], (), ("done",)), 1), False, ((), (4,), (4, 5), (0, 2, 3, 4, 5)[3:]), ((0,), (0, 2, 3), (5,)))

    def test_same(self):
        for one, other in ((MILL, MILL), (MILL, (MILL[0], CALM[:2] + (CALM[2][:1] + (5,) + CALM[2][2:],) + CALM[3:], ("x",), None)),
                           (mill_begun(BARE, LIMITS), mill_begun(BARE, (3, 9, 7)))):
            self.check(("same", one, other), True, ((),), ([], (0,), None))
        self.check(("same", MILL, OTHER), False, ((0, 0, 2, 1),), ((), (0, 0, 2), (0, 0, 2, 0), (0, 0, 2, True), [0, 0, 2, 1], (0, 0, 2, 1, 0), (1,)))
        self.check(("same", MILL, THIRD), False, ((0, 0, 2, 0), (1, 0, 0), (2,))[2:], ((), (3,)))

    def test_short(self):
        for program in (BARE, main("halt"), trimmed(WASTE)):
            self.check(("short", program), True, ((),), ([], ("dropped", 0, 0), ("codes", 0, 0)))
        self.check(("short", WASTE), False, (("dropped", 0, 0),), ((), ["dropped", 0, 0], ("dropped", 0, 1), ("worked", 0, 0), ("dropped", False, 0), ("dropped", 0)))
        program = main("constant number 2; constant number 3; two *; pop; jump 5; halt")
        self.check(("short", program), False, tuple(trims(program)), ((), ("next", 0, 3)))

    def test_fits(self):
        for room in (1, 2, 9):
            self.check(("fits", BARE, 1, 3, room), True, ((),), ([], 0, None, (0,)))
        self.check(("fits", BARE, 1, 0, 0), True, ((),), (0,))
        self.check(("fits", BARE, 1, 3, 0), False, (0,), ((), False, 1, -1, "0", (0,), None))
        late = main("constant number 1; array 1; array 1; halt")
        self.check(("fits", late, 1, 9, 3), False, (2,), ((), 1, 3, (2,)))
        self.check(("fits", late, 1, 2, 3), True, ((),), (2,))
        self.check(("fits", late, 1, 9, 0), False, (1,), ((), True, 2, 0))

    def test_ends(self):
        self.check(("ends", BARE, LIMITS, 3, DONE), True, ((),), ([], DONE, ((), ("going",)), lists_of(DONE)))
        self.check(("ends", BARE, LIMITS, 2, DONE), False, ((("array 0",), ("going",)),), ((), DONE, (["array 0"], ("going",)), (("array 0",), ["going"]), [("array 0",), ("going",)]))
        self.check(("ends", BARE, (0, 4, 1), 3, DONE), False, (((), ("failed", "room")),), ((), DONE, ((), ("failed",))))
        self.check(("ends", BARE, LIMITS, 0, ((), ("going",))), True, ((),), (((), ("going",)),))
        self.check(("ends", BARE, LIMITS, 3, (("no showing at all!",), ("done",))), False, (DONE,), ((),))

    def test_random(self):
        chance = random.Random(23)
        counts = {}
        for seed in range(150):
            program = (compiled_program, shaped_program, bent_program)[seed % 3](seed)
            claims = [("taken", program)]
            if is_taken(program):
                limits = (chance.choice((3, 12, 30)), 4, chance.choice((1, 5)))
                states = states_along(program, limits, 40)
                state = chance.choice(states)
                claims += [("live", own, number) for own in (state, canon(state)) for number in range(len(own[1]))]
                mills = mills_along(program, limits, (chance.choice((0, 1, 5)),), 40)
                others = mills_along(program, (*limits[:1], 9, 5), (2, 0), 40)
                at = chance.randrange(min(len(mills), len(others)))
                claims += [("same", mills[at], others[at]), ("same", mills[at], chance.choice(others)), ("short", program), ("short", trimmed(program))]
                room = least_room(program, limits[2], 40)
                claims += [("fits", program, limits[2], 40, own) for own in (room, max(0, room - 1))]
                outcome = run_plain(program, limits, 40)
                claims += [("ends", program, limits, 40, outcome), ("ends", program, limits, 39, outcome), ("ends", program, limits, 40, (outcome[0] + ("1",), outcome[1]))]
            for claim in claims:
                self.assertIs(is_claim(claim), True)
                so = is_so(claim)
                self.assertIs(so, self.is_so_plainly(claim))
                own = paper(claim)
                self.assertEqual((is_paper_for(claim, own), is_paper_against(claim, own)), (so, not so))
                counts[claim[0], so] = counts.get((claim[0], so), 0) + 1
            papers = [paper(claim) for claim in claims]
            self.assertEqual(verdicts(claims, papers), ["for" if is_so(claim) else "against" for claim in claims])
            # A PAPER of one CLAIM shown for another one never tells the wrong side.
            for claim in claims:
                thing = chance.choice(papers)
                self.assertFalse(is_paper_against(claim, thing) if is_so(claim) else is_paper_for(claim, thing))
        self.assertEqual(len(counts), 12)
        self.assertGreater(min(counts.values()), 20, counts)

    def is_so_plainly(self, claim):
        word, *fields = claim
        if word == "taken":
            return is_taken(*fields)
        if word == "live":
            return fields[1] in live(fields[0])
        if word == "same":
            return same_sight(*fields)
        if word == "short":
            return trims(*fields) == []
        if word == "fits":
            return first_refused(fields[0], fields[3], fields[1], fields[2]) is None
        return run_plain(*fields[:3]) == fields[3]

    def test_papers_are_what_other_functions_take(self):
        self.assertIs(is_table(BARE, paper(("taken", BARE))), True)
        self.assertIs(is_bar(REFUSED, paper(("taken", REFUSED))), True)
        self.assertIs(is_paper_against(("taken", REFUSED), bar(REFUSED)), True)
        self.assertIs(is_parting(MILL, OTHER, paper(("same", MILL, OTHER))), True)
        self.assertIs(is_paper_against(("same", MILL, OTHER), parting(MILL, OTHER)), True)


class VerdictsTest(unittest.TestCase):
    def test_verdicts(self):
        things = [paper(claim) for claim in CLAIMS]
        wanted = ["for", "against"] * 6
        self.assertEqual(verdicts(CLAIMS, things), wanted)
        self.assertEqual(verdicts(list(CLAIMS), tuple(things)), wanted)
        self.assertEqual(verdicts(things=tuple(things), claims=lists_of(CLAIMS)), wanted)
        self.assertEqual(verdicts(CLAIMS, [None] * 12), ["none"] * 12)
        self.assertEqual(verdicts((), ()), [])
        self.assertEqual(verdicts([], []), [])
        # A list within is a list.
        self.assertEqual(verdicts((CLAIMS[4], CLAIMS[4], CLAIMS[2], CLAIMS[2]), ((), [], (0, 1), [0, 1])), ["for", "none", "for", "none"])
        self.assertEqual(verdicts(CLAIMS, lists_of(things)), ["against" if own == 0 and type(own) is int else "none" for own in things])

    def test_unequally_many(self):
        for claims, things in ((CLAIMS, ()), ((), (None,)), (CLAIMS[:2], (None,)), (CLAIMS[:1], (None, None)), (CLAIMS, [None] * 13)):
            self.assertEqual(told(verdicts, claims, things), raised("Unfit"))

    def test_first_false(self):
        self.assertEqual(first_false(CLAIMS), 1)
        self.assertEqual(first_false(lists_of(CLAIMS)), 1)
        self.assertEqual(first_false(claims=CLAIMS[::2]), None)
        self.assertEqual(first_false(CLAIMS[::2] + CLAIMS[1:2]), 6)
        self.assertEqual(first_false(CLAIMS[1::2]), 0)
        self.assertEqual(first_false(()), None)
        self.assertEqual(first_false([]), None)
        # That a later one is none is told before all else.
        self.assertEqual(told(first_false, (CLAIMS[1], None)), raised("Unfit"))
        self.assertEqual(told(first_false, (CLAIMS[1], ("short", REFUSED))), raised("Unfit"))

    def test_nothing_is_changed(self):
        claims = lists_of(CLAIMS)
        before = repr(claims)
        first_false(claims)
        verdicts(claims, [[]] * 12)
        for claim in claims:
            comes_of(claim, claims)
            paper(claim)
        self.assertEqual(repr(claims), before)


class ComesTest(unittest.TestCase):
    def check(self, wanted, claim, *claims):
        self.assertIs(comes_of(claim, claims), wanted)
        self.assertIs(comes_of(claims=lists_of(claims), claim=lists_of(claim)), wanted)
        self.assertIs(comes_of(claim, claims[::-1]), wanted)
        self.assertIs(comes_of(claim, claims + (("taken", main("fail")),)), wanted)

    def test_nothing_comes_of_nothing(self):
        for claim in CLAIMS:
            self.assertIs(comes_of(claim, ()), False)
            self.assertIs(comes_of(claim, []), False)

    def test_one_of_them(self):
        for claim in CLAIMS:
            self.check(True, claim, claim)
            self.check(True, claim, *CLAIMS)
            self.check(False, claim, *[own for own in CLAIMS if own[0] != claim[0]])
        # Be it so or not, and nothing else comes of "taken" and "short".
        self.check(False, ("taken", WASTE), ("taken", BARE), ("short", WASTE))
        self.check(False, ("short", BARE), ("short", WASTE), ("taken", BARE))

    def test_truths_beside_numbers(self):
        one, other = (main(f"constant {own}; show; halt") for own in ("number 1", "truth true"))
        self.check(False, ("taken", one), ("taken", other))
        self.check(False, ("short", other), ("short", one))
        self.check(False, ("fits", one, 1, 3, 5), ("fits", other, 1, 3, 5))
        self.check(False, ("fits", one, 1, 3, 6), ("fits", other, 1, 3, 5))
        self.check(False, ("ends", one, LIMITS, 5, (("1",), ("done",))), ("ends", other, LIMITS, 3, (("1",), ("done",))))
        self.check(False, ("ends", one, (5, 4, 1), 3, (("1",), ("done",))), ("ends", one, LIMITS, 3, (("1",), ("done",))), ("fits", other, 1, 3, 0))
        self.check(True, ("ends", one, (5, 4, 1), 3, (("1",), ("done",))), ("ends", one, LIMITS, 3, (("1",), ("done",))), ("fits", one, 1, 3, 0))
        self.check(False, ("same", MILL, THIRD), ("same", OTHER, THIRD))
        self.check(False, ("same", THIRD, MILL), ("same", OTHER, THIRD))
        self.check(False, ("same", MILL, MILL), ("same", OTHER, OTHER))
        states = [(HELD[0], HELD[1][:4] + (("cell", own),) + HELD[1][5:], (), None) for own in (1, True)]
        self.check(False, ("live", states[0], 1), ("live", states[1], 0))
        self.check(True, ("live", states[0], 1), ("live", states[1], 1), ("live", states[0], 0))

    def test_live(self):
        self.check(True, ("live", HELD, 1), ("live", HELD, 0))
        self.check(True, ("live", HELD, 1), ("live", HELD, 3))
        self.check(True, ("live", HELD, 2), ("live", HELD, 3))
        self.check(True, ("live", HELD, 4), ("live", HELD, 5))
        self.check(False, ("live", HELD, 5), ("live", HELD, 4))
        self.check(False, ("live", HELD, 0), ("live", HELD, 1), ("live", HELD, 4))
        # FRAMES tell nothing.
        self.check(False, ("live", HELD, 0), ("live", HELD, 5))
        self.check(False, ("live", HELD, 1), ("live", (HELD[0], HELD[1], (), None), 0))

    def test_same(self):
        fourth = mill_begun(BARE, LIMITS)
        self.check(True, ("same", OTHER, MILL), ("same", MILL, OTHER))
        self.check(True, ("same", MILL, THIRD), ("same", MILL, OTHER), ("same", OTHER, THIRD))
        self.check(True, ("same", MILL, THIRD), ("same", OTHER, MILL), ("same", OTHER, THIRD))
        self.check(True, ("same", THIRD, MILL), ("same", MILL, OTHER), ("same", THIRD, OTHER))
        self.check(True, ("same", fourth, MILL), ("same", MILL, OTHER), ("same", THIRD, OTHER), ("same", THIRD, fourth))
        self.check(False, ("same", fourth, MILL), ("same", MILL, OTHER), ("same", THIRD, fourth))
        self.check(True, ("same", MILL, MILL), ("same", MILL, OTHER))
        self.check(True, ("same", OTHER, OTHER), ("same", MILL, OTHER))
        self.check(False, ("same", MILL, MILL), ("same", THIRD, OTHER))
        self.check(False, ("same", MILL, MILL), ("taken", BARE))
        self.check(False, ("same", MILL, OTHER), ("same", MILL, MILL), ("same", OTHER, OTHER))

    def test_fits(self):
        claim = ("fits", BARE, 2, 5, 7)
        for most in range(8):
            for room in range(10):
                self.check(most <= 5 and room >= 7, ("fits", BARE, 2, most, room), claim)
        self.check(False, ("fits", BARE, 1, 5, 7), claim)
        self.check(False, ("fits", WASTE, 2, 5, 7), claim)
        self.check(False, ("fits", BARE, 2, 5, 5), ("fits", BARE, 2, 5, 6), ("fits", BARE, 2, 4, 5))
        self.check(True, ("fits", BARE, 2, 3, 5), ("fits", BARE, 2, 5, 6), ("fits", BARE, 2, 4, 5))

    def ends(self, room, most, outcome=DONE, nursery=4, deep=1, program=BARE):
        return ("ends", program, (room, nursery, deep), most, outcome)

    def fits(self, most, room, deep=1, program=BARE):
        return ("fits", program, deep, most, room)

    def test_ends(self):
        going = (("array 0",), ("going",))
        for nursery in (4, 5, 500):
            self.check(True, self.ends(5, 3, nursery=nursery), self.ends(5, 3))
            self.check(True, self.ends(5, 3, going, nursery), self.ends(5, 3, going))
        self.check(True, self.ends(5, 4, nursery=9), self.ends(5, 3))
        self.check(False, self.ends(5, 2), self.ends(5, 3))
        self.check(False, self.ends(5, 4, going), self.ends(5, 3, going))
        self.check(True, self.ends(5, 9, (("x",), ("failed", "room"))), self.ends(5, 3, (("x",), ("failed", "room"))))
        for wrong in (self.ends(6, 3), self.ends(4, 3), self.ends(5, 3, going), self.ends(5, 3, deep=2), self.ends(5, 3, program=WASTE), self.ends(5, 3, ((), ("done",)))):
            self.check(False, wrong, self.ends(5, 3))

    def test_ends_that_fit(self):
        for room in range(8):
            self.check(room >= 3, self.ends(room, 4), self.ends(5, 4), self.fits(4, 3))
            self.check(room >= 3, self.ends(room, 4, nursery=7), self.ends(5, 4), self.fits(6, 3))
            self.check(room >= 3, self.ends(room, 9), self.ends(5, 4), self.fits(4, 3))
            self.check(room == 5, self.ends(room, 4), self.ends(5, 4), self.fits(3, 3))
            self.check(room == 5, self.ends(room, 4), self.ends(5, 4), self.fits(4, 6))
            self.check(room == 5, self.ends(room, 9), self.ends(5, 4), self.fits(3, 3))
            self.check(room >= 5, self.ends(room, 4), self.ends(5, 4), self.fits(4, 5))
            # Over a greater room to a lesser one.
            self.check(room >= 2, self.ends(room, 4), self.ends(5, 4), self.fits(4, 5), self.fits(9, 2))
            self.check(room >= 5, self.ends(room, 4), self.ends(5, 4), self.fits(4, 5), self.fits(3, 2))
            self.check(room in (1, 5), self.ends(room, 4), self.ends(5, 4), self.ends(1, 4), self.fits(4, 6))
            going = ((), ("going",))
            self.check(room >= 3, self.ends(room, 4, going), self.ends(5, 4, going), self.fits(4, 3))
            self.check(False, self.ends(room, 5, going), self.ends(5, 4, going), self.fits(9, 3))
        self.check(False, self.ends(6, 4), self.ends(5, 4), self.fits(4, 3, deep=2))
        self.check(False, self.ends(6, 4), self.ends(5, 4), self.fits(4, 3, program=WASTE))
        self.check(False, self.ends(6, 4), self.fits(4, 3))

    def test_all_that_come(self):
        chance = random.Random(24)
        outcomes = (DONE, (("array 0",), ("going",)))
        rooms, mosts = range(6), range(5)
        mills = (MILL, OTHER, THIRD, mill_begun(BARE, LIMITS))
        every = [("fits", BARE, 1, most, room) for most in mosts for room in rooms]
        every += [("ends", BARE, (room, nursery, 1), most, own) for room in rooms for nursery in NURSERIES for most in mosts for own in outcomes]
        every += [("same", one, other) for one in mills for other in mills] + [("live", HELD, own) for own in range(6)]
        counts = {True: 0, False: 0}
        for _ in range(60):
            words = chance.choice((("ends", "fits"), ("ends", "fits"), ("same", "live"), ("ends", "fits", "same", "live")))
            few = [own for own in every if own[0] in words]
            claims = tuple(chance.choice(few) for _ in range(chance.randrange(1, 6)))
            come = all_that_come(claims, rooms, mosts)
            for claim in chance.sample(few, min(30, len(few))) + list(claims):
                wanted = repr(claim) in come
                self.assertIs(comes_of(claim, claims), wanted, (claim, claims))
                counts[wanted] += 1
        self.assertGreater(min(counts.values()), 200, counts)

    def test_what_comes_of_what_is_so_is_so(self):
        # CLAIMS that are so lead to nothing that is not.
        program = BUSY[0]
        limits = [(room, nursery, 1) for room in (5, 21, 22, 40) for nursery in (4, 9)]
        every = [("ends", program, own, most, run_plain(program, own, most)) for own in limits for most in (20, 100, 2000)]
        every += [("fits", program, 1, most, room) for most in (20, 100, 2000) for room in (5, 21, 22, 40)]
        known = [own for own in every if is_so(own)]
        outcomes = [own[4] for own in every if own[0] == "ends"]
        more = every + [("ends", program, own, most, outcome) for own in limits[::2] for most in (20, 2000) for outcome in outcomes[::3]]
        came = [own for own in more if comes_of(own, known[::2])]
        self.assertTrue(all(is_so(own) for own in came))
        self.assertGreater(len(came), 20)


if __name__ == "__main__":
    unittest.main()
