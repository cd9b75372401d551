"""Section 13 of the document: checker.py."""

import random
import unittest

from gathermill.checker import bar, holds, is_bar, is_table, is_taken, sheet_along, table_of, tallest
from gathermill.codes import effect_of
from gathermill.machine import states_along
from tests.examples_of_document import check_file
from tests.programs import STRANGE, lists_of, made, main, nested, raised, told
from tests.random_codes import bent_program, compiled_program, grown_program, shaped_program
from tests.reference_codes import LACKING, first_sheet, is_table_plainly, lacks, refusal, steps, table_by_paths
from tests.test_codes import WORDS

ON, LACK = "on", "lack"


def path(*told_steps):
    """A PATH by places, and by pairs (place, how) where how is not "on"."""
    return tuple((own, ON) if isinstance(own, int) else own for own in told_steps)


class RefusalsTest(unittest.TestCase):
    def check(self, program, code, place):
        for own in (program, lists_of(program)):
            self.assertEqual(told(table_of, own), raised("Refused", code=code, place=place), program)
            self.assertEqual(told(tallest, own), raised("Refused", code=code, place=place))
            self.assertIs(is_taken(own), False)
            self.assertIs(is_bar(own, bar(own)), True)
        self.assertEqual(refusal(program), (code, place), program)

    def check_main(self, body, place, slots=0):
        self.check(main(body, slots), 0, place)

    def test_examples(self):
        check_file(self, "13")

    def test_places_that_are_none(self):
        self.check_main("jump 1", 0)
        self.check_main("jump 2; halt", 0)
        self.check_main("constant truth true; unless 3; halt", 1)
        self.check_main("guard 3; unguard; halt", 0)
        self.check_main("constant number 1", 0)
        self.check_main("constant number 1; pop", 1)
        # The place that an unless tells is there, the next one is not.
        self.check_main("constant truth true; unless 0", 1)
        self.check_main("jump 2; halt; guard 1", 2)
        self.assertIs(is_taken(main("jump 0")), True)

    def test_slots_cells_and_codes_that_are_not_there(self):
        for word in ("load", "box", "open", "fill"):
            self.check_main(f"constant number 1; {word} 1; halt", 1, 1)
        self.check_main("constant number 1; store 0; halt", 1)
        self.check_main("constant number 1; store 2; halt", 1, 2)
        self.check_main("up 0; halt", 0)
        self.check(made("0 0 0: halt", "0 0 2: up 1; up 2; return"), 1, 1)
        self.check(made("0 0 0: halt", "0 0 2: up 0; upfill 0; up 0; upfill 2; return"), 1, 3)
        self.check_main("close 1; halt", 0)
        self.check(made("0 0 0: close 2; halt", "0 0 0: jump 0"), 0, 0)
        self.check(made("0 0 0: close 1 slot 0; halt", "0 0 1: jump 0"), 0, 0)
        self.check(made("0 0 0: halt", "0 0 1: close 1 up 1; return"), 1, 0)

    def test_closes(self):
        self.check_main("close 0; halt", 0)
        self.check(made("0 0 0: close 1; halt", "0 0 1: jump 0"), 0, 0)
        self.check(made("0 1 0: constant number 1; store 0; box 0; close 1 slot 0 slot 0; halt", "0 0 1: jump 0"), 0, 3)
        self.check(made("0 0 0: halt", "0 0 1: close 0 up 0; return"), 1, 0)

    def test_return_and_halt(self):
        self.check_main("constant number 1; return", 1)
        self.check(made("0 0 0: halt", "0 0 0: halt"), 1, 0)

    def test_unguard(self):
        self.check_main("unguard; halt", 0)
        self.check_main("guard 2; unguard; unguard; halt", 2)

    def test_low_stacks(self):
        for instruction, (off, _), _, text in WORDS:
            if off > 0:
                below = "; ".join(["constant number 1"] * (off - 1) + [text])
                code, place = (1, off - 1) if instruction[0] == "return" else (0, off - 1)
                if code == 1:
                    self.check(made("0 0 0: halt", "0 0 1: " + below), code, place)
                elif instruction[0] == "upfill":
                    self.check(made("0 0 0: halt", f"0 4 1: {below}; jump 0"), 1, place)
                else:
                    self.check(main(f"{below}; {'; '.join(['halt'] * 9)}", 9), code, place)

    def test_stacks_lower_than_the_last_guard(self):
        self.check_main("constant number 1; guard 4; pop; unguard; halt", 2)
        self.check_main("constant number 1; guard 5; constant number 1; guard 5; one -; unguard; halt", 4)
        self.assertIs(is_taken(main("constant number 1; guard 4; constant number 2; pop; pop; halt")), False)
        self.assertIs(is_taken(main("constant number 1; guard 6; constant number 2; pop; unguard; jump 7; pop; halt")), True)

    def test_kinds(self):
        self.check_main("load 0; halt", 0, 1)
        self.check_main("box 0; halt", 0, 1)
        self.check_main("open 0; halt", 0, 1)
        self.check_main("constant number 1; fill 0; halt", 1, 1)
        self.check_main("constant number 1; store 0; open 0; halt", 2, 1)
        self.check_main("constant number 1; store 0; box 0; load 0; halt", 3, 1)
        self.check_main("constant number 1; store 0; box 0; box 0; halt", 3, 1)
        self.check(made("0 1 0: constant number 1; store 0; close 1 slot 0; halt", "0 0 1: jump 0"), 0, 2)
        self.check(made("0 2 0: constant number 1; store 0; box 0; close 1 slot 0 slot 1; halt", "0 0 2: jump 0"), 0, 3)
        self.check(made("0 0 0: halt", "1 2 0: load 0; load 1; return"), 1, 1)
        self.check(made("0 0 0: halt", "1 1 0: open 0; return"), 1, 0)

    def test_kinds_that_ways_do_not_share(self):
        self.check_main("constant truth true; unless 4; constant number 1; store 0; load 0; halt", 4, 1)
        self.check_main("constant number 1; store 0; constant truth true; unless 5; box 0; load 0; halt", 5, 1)
        self.check_main("constant number 1; store 0; constant truth true; unless 5; box 0; open 0; halt", 5, 1)
        self.check_main("constant number 1; store 0; load 0; pop; box 0; constant truth true; unless 2; halt", 2, 1)

    def test_heights_and_guards_that_meet(self):
        self.check_main("constant truth true; unless 3; constant number 1; halt", 3)
        self.check_main("constant number 1; jump 0", 0)
        self.check_main("constant truth true; unless 3; guard 3; halt", 3)
        self.check_main("guard 0", 0)
        # One way by a GUARD, and another one with the same height and other GUARDS.
        self.check_main("guard 4; guard 3; constant number 1; sure; halt", 3)

    def test_the_order_of_ways_tells_the_place(self):
        # From place 2 the ways lead to 3 and 5; at both others bring another height; 3 is looked at first.
        self.check_main("constant truth true; constant truth true; unless 5; unless 5; halt; halt", 5)
        # The way of a lack stands ahead of the one that goes on to the same place.
        self.check_main("guard 3; constant truth true; unless 3; pop; halt", 3)
        # At place 2 come two heights; place 4, farther in the text, is come to first and lacks something.
        self.check_main("constant truth true; unless 4; constant number 1; jump 4; pop; halt", 4)
        self.check_main("jump 3; constant number 1; pop; unguard; halt", 3)
        # Place 5 is come to ahead of place 2, which lacks a place.
        self.check_main("constant truth true; unless 5; jump 9; halt; halt; pop; halt", 2)
        self.check_main("jump 4; jump 9; halt; halt; constant truth true; unless 1; pop; halt", 1)

    def test_a_kind_lacks_beside_something_else(self):
        # The least place at which a kind lacks is 0, but the heights at 4 are told, which come behind it.
        self.check_main("load 0; constant truth true; unless 4; constant number 1; halt", 4, 1)
        self.check_main("load 0; pop; constant truth true; unless 5; guard 5; halt", 5, 1)
        self.check_main("box 0; unguard; halt", 1, 1)
        # Of two kinds that lack the one at the lesser place is told, though it is come to later.
        self.check_main("jump 3; open 0; halt; load 0; pop; jump 1", 1, 1)
        # The way over a box that lacks a kind brings a CELL, that over a store a plain VALUE.
        self.check_main("box 0; open 0; pop; halt", 0, 1)
        self.check_main("jump 2; halt; box 0; constant number 1; store 0; load 0; jump 1", 2, 1)
        # By a lack kinds stay.
        self.check_main("constant number 1; store 0; guard 5; box 0; halt; open 0; halt", 5, 1)

    def test_the_first_code_is_told(self):
        self.check(made("0 0 0: halt", "0 0 0: jump 0", "0 0 0: pop; jump 0", "0 0 0: return"), 2, 0)
        self.check(made("0 1 0: load 0; halt", "0 0 0: pop; jump 0"), 0, 0)


class UnfitTest(unittest.TestCase):
    def test_what_is_no_program(self):
        calls = ((table_of, ()), (is_taken, ()), (is_table, (1,)), (bar, ()), (is_bar, (1,)), (sheet_along, (0, ())),
                 (tallest, ()), (holds, ((), ((), (), (), None))))
        for thing in STRANGE + (((1, 1, 0, (("halt",),)),), ((0, 0, 0, (("halt", 1),)),), ((0, 0, 0, (("jump", -1),)),)):
            for function, more in calls:
                self.assertEqual(told(function, thing, *more), raised("Unfit"), (function, thing))

    def test_by_name(self):
        program = main("halt")
        table = ((((), 0, ()),),)
        self.assertEqual(table_of(program=program), table)
        self.assertIs(is_taken(program=program), True)
        self.assertIs(is_table(thing=table, program=program), True)
        self.assertIs(is_bar(thing=1, program=program), False)
        self.assertEqual(sheet_along(path=[[0, "on"]], code=0, program=[list(program[0])]), ((), 0, ()))
        self.assertEqual(tallest(program=program), (0,))
        self.assertEqual(told(bar, program=program), raised("CanNot"))
        self.assertIs(holds(state=((), (), (), ("done",)), table=table, program=program), True)


class WaysTest(unittest.TestCase):
    def test_ways_to_the_place_of_a_guard(self):
        """From each word there is a lack's way, or none: the place of the GUARD has a SHEET, or none."""
        for instruction, (off, _), _, _ in WORDS:
            word = instruction[0]
            behind = 6 + off
            own = {"jump": ("jump", behind + 1), "unless": ("unless", behind + 1), "guard": ("guard", behind + 2),
                   "close": ("close", 2, (("up", 0),)), "load": ("load", 0), "open": ("open", 1), "fill": ("fill", 1),
                   "box": ("box", 0), "up": ("up", 0)}.get(word, instruction)
            begin = (("load", 0), ("store", 0), ("box", 1), ("constant", True), ("guard", behind + 2))
            # Behind it all goes round for ever.
            end = tuple(("jump", behind + at) for at in range(3))
            program = ((0, 0, 0, (("halt",),)), (2, 2, 1, begin + (("constant", True),) * off + (own,) + end),
                       (0, 0, 1, (("up", 0), ("return",))))
            if word == "halt":
                self.assertEqual(told(table_of, program), raised("Refused", code=1, place=behind - 1))
                continue
            sheet = table_of(program)[1][behind + 2]
            self.assertEqual(sheet, (("plain", "cell"), 2, ()) if word in LACKING else None, word)
        self.assertEqual(len(LACKING), 13)

    def test_no_way_without_a_guard(self):
        program = main("constant truth true; unless 3; fail; constant number 1; fail")
        self.assertIs(is_taken(program), False)
        self.assertEqual(told(sheet_along, program, 0, path(0, 1, (3, LACK))), raised("Unfit"))

    def test_store_behind_a_lack(self):
        program = main("guard 5; constant number 1; store 0; constant number 2; fail; store 0; load 0; halt", 1)
        self.assertEqual(table_of(program)[0][5:7], ((("plain",), 1, ()), (("plain",), 0, ())))
        program = main("guard 4; constant number 1; one -; store 0; pop; halt", 1)
        self.assertEqual(told(table_of, program), raised("Refused", code=0, place=4))

    def test_tables(self):
        program = main("constant truth true; unless 4; constant number 1; store 0; constant number 2; store 0; load 0; pop; "
                       "halt; jump 9", 1)
        none, plain = ("none",), ("plain",)
        wanted = ((none, 0, ()), (none, 1, ()), (none, 0, ()), (none, 1, ()), (none, 0, ()), (none, 1, ()), (plain, 0, ()),
                  (plain, 1, ()), (plain, 0, ()), None)
        self.assertEqual(table_of(program), (wanted,))
        self.assertEqual(tallest(program), (1,))
        self.assertEqual(tallest(made("0 0 0: halt", "2 2 0: load 0; load 1; two +; load 0; load 1; array 3; return")), (0, 3))

    def test_guards_in_tables(self):
        program = main("constant number 1; guard 6; guard 5; constant number 2; show; unguard; unguard; halt")
        self.assertEqual(told(table_of, program), ((((), 0, ()), ((), 1, ()), ((), 1, ((6, 1),)), ((), 1, ((6, 1), (5, 1))),
                                                    ((), 2, ((6, 1), (5, 1))), ((), 1, ((6, 1), (5, 1))),
                                                    ((), 1, ((6, 1),)), ((), 1, ())),))


class PathsTest(unittest.TestCase):
    program = made("0 1 0: guard 5; constant number 1; store 0; constant number 2; fail; store 0; halt",
                   "0 1 1: up 0; unless 4; load 0; return; constant number 1; return")

    def test_sheets(self):
        for told_path, sheet in (
            (path(0), (("none",), 0, ())), (path(0, 1), (("none",), 0, ((5, 0),))),
            (path(0, 1, 2, 3, 4), (("plain",), 1, ((5, 0),))), (path(0, 1, 2, 3, 4, (5, LACK)), (("plain",), 1, ())),
            (path(0, 1, 2, 3, 4, (5, LACK), 6), (("plain",), 0, ())),
        ):
            self.assertEqual(sheet_along(self.program, 0, told_path), sheet)
            self.assertEqual(sheet_along(lists_of(self.program), 0, lists_of(told_path)), sheet)
        # The last INSTRUCTION of a PATH may lack something.
        self.assertEqual(sheet_along(self.program, 1, path(0, 1, 2)), (("none",), 0, ()))

    def test_what_is_no_path(self):
        for told_path in ((), path(1), path((0, LACK)), path(0, 0), path(0, 2), path(0, 1, 2, 3, 4, 5),
                          path(0, 1, 2, (5, LACK)), path(0, (5, LACK)), path(0, 1, 2, 3, 4, (5, LACK), (5, LACK)),
                          path(0, 1, 2, 3, 4, (5, LACK), 6, 7), path(0, (1, "off")), path(0, (1, "")), ((0,),), ((0, ON, ON),),
                          ((0, ON), ()), path(0, 99), ((0, ON), (None, ON)), ((0, ON), (1, None)), ((True, ON),)):
            self.assertEqual(told(sheet_along, self.program, 0, told_path), raised("Unfit"), told_path)
        # Behind an INSTRUCTION that lacks something nothing goes on.
        self.assertEqual(told(sheet_along, self.program, 1, path(0, 1, 2, 3)), raised("Unfit"))
        self.assertEqual(told(sheet_along, main("pop; halt"), 0, path(0, 1)), raised("Unfit"))

    def test_bars_of_one_path(self):
        self.assertIs(is_bar(self.program, (1, path(0, 1, 2))), True)
        for thing in ((1, path(0, 1, 4)), (1, path(0, 1)), (0, path(0, 1, 2)), (1, path(0, 1, 2, 3)), [1, path(0, 1, 2)],
                      (1, lists_of(path(0, 1, 2))), (1, ([0, ON], (1, ON), (2, ON))), (1, path(0, 1, 2), None), (1,), (), 1, None,
                      (True, path(0, 1, 2)), (2, path(0)), (-1, path(0)), ("1", path(0)), (1, ()), (1, ((False, ON),)),
                      (1, path(0, 1, 2), path(0, 1, 2)), (1, path(0, 1, 2), path(0, 1, 4)), path(0, 1, 2), nested(100)):
            self.assertIs(is_bar(self.program, thing), False, thing)

    def test_truths_are_no_places(self):
        self.assertIs(is_bar(main("load 0; pop; pop; halt", 0), (0, ((False, ON),))), False)
        self.assertIs(is_bar(main("jump 1; pop; halt"), (0, ((0, ON), (True, ON)))), False)
        self.assertIs(is_bar(main("jump 1; pop; halt"), (0, ((0, ON), (1, ON)))), True)
        self.assertIs(is_bar(main("jump 1; pop; halt"), (False, ((0, ON), (1, ON)))), False)

    def test_bars_of_two_paths(self):
        program = main("constant truth true; unless 5; guard 5; unguard; constant number 1; halt; constant truth true; unless 9; "
                       "halt; halt")
        high, low, other = path(0, 1, 2, 3, 4, 5), path(0, 1, 5), path(0, 1, 2, 3)
        self.assertIs(is_bar(program, (0, high, low)), True)
        self.assertIs(is_bar(program, (0, low, high)), True)
        for thing in ((0, low, low), (0, high, high), (0, low, other), (0, high), (0, low, high, low), [0, low, high],
                      (0, low, list(high)), (1, low, high), (0, low, path(0, 5)), (0, low, ())):
            self.assertIs(is_bar(program, thing), False, thing)
        guards = main("constant truth true; unless 3; guard 4; halt; halt")
        self.assertIs(is_bar(guards, (0, path(0, 1, 3), path(0, 1, 2, 3))), True)
        kinds = main("constant truth true; unless 4; constant number 1; store 0; halt", 1)
        self.assertIs(is_bar(kinds, (0, path(0, 1, 4), path(0, 1, 2, 3, 4))), False)

    def test_long_paths(self):
        program = main("constant number 1; pop; jump 0")
        self.assertEqual(sheet_along(program, 0, path(*[0, 1, 2] * 3000)), ((), 0, ()))
        self.assertIs(is_bar(program, (0, path(*[0, 1, 2] * 3000))), False)

    def test_strange_things(self):
        program = main("pop; halt")
        for thing in STRANGE:
            for own in (thing, (0, thing), (thing, path(0)), (0, (thing,)), (0, path(0), thing), (0, ((0, thing),)),
                        (0, ((thing, ON),)), (0, ((0, ON), thing))):
                good = type(own) is tuple and own[:1] and type(own[0]) is int and own in ((0, ((0, ON),)), (0, path(0)))
                good = good and type(own[1][0][0]) is int
                self.assertIs(is_bar(program, own), bool(good), own)


class TablesTest(unittest.TestCase):
    # Place 5 is never come to; the slot is plain or a CELL at place 6.
    program = main("constant truth true; store 0; constant truth true; unless 6; box 0; jump 6; halt; halt", 1)

    def rows(self, **changed):
        rows = list(table_of(self.program)[0])
        for place, sheet in changed.items():
            rows[int(place[1:])] = sheet
        return (tuple(rows),)

    def check(self, wanted, **changed):
        self.assertIs(is_table(self.program, self.rows(**changed)), wanted, changed)

    def test_the_least_one(self):
        self.check(True)
        self.assertEqual(self.rows()[0][3:], ((("plain",), 1, ()), (("plain",), 0, ()), (("cell",), 0, ()), (("none",), 0, ()), None))
        self.assertIs(is_table(self.program, lists_of(self.rows())), False)

    def test_weaker_ones(self):
        none = ("none",)
        self.check(True, p5=(none, 0, ()))
        # Weaker at place 4 than the box there needs.
        self.check(False, p2=(none, 0, ()), p3=(none, 1, ()), p4=(none, 0, ()))
        self.check(False, p4=(none, 0, ()))
        # The SHEET behind a weaker one must be as weak.
        self.check(False, p2=(none, 0, ()))
        self.check(False, p3=(none, 1, ()))

    def test_stronger_ones(self):
        self.check(False, p6=(("cell",), 0, ()))
        self.check(False, p6=(("plain",), 0, ()))
        self.check(False, p0=(("plain",), 0, ()))
        self.check(False, p1=(("plain",), 1, ()))
        self.check(False, p1=(("cell",), 1, ()))

    def test_sheets_too_few_or_too_many(self):
        for place in range(7):
            self.check(False, **{f"p{place}": None})
        for sheet in ((("none",), 0, ()), (("cell",), 7, ()), (("plain",), 3, ((0, 2), (1, 3))), (("cell",), 0, ((9, 9),))):
            # The halt at place 7 takes nothing, so whatever stands there goes.
            self.check(sheet[2] != ((9, 9),), p7=sheet)
        # Behind place 8 the pop has a SHEET that the next place does not have.
        program = main("halt; pop; halt")
        for height, more in ((1, 0), (5, 4)):
            self.assertIs(is_table(program, ((((), 0, ()), ((), height, ()), ((), more, ())),)), True)
            self.assertIs(is_table(program, ((((), 0, ()), ((), height, ()), None),)), False)
            self.assertIs(is_table(program, ((((), 0, ()), None, ((), more, ())),)), True)
        self.assertIs(is_table(program, ((((), 0, ()), ((), 0, ()), None),)), False)
        self.assertIs(is_table(program, ((((), 0, ()), ((), 1, ((0, 1),)), None),)), False)

    def test_lacks_of_sheets_that_nothing_leads_to(self):
        program = main("halt; sure; halt; halt")
        good = ((), 0, ())
        for sheet, behind, wanted in ((((), 1, ((3, 0),)), ((), 1, ()), True), (((), 1, ((3, 0),)), ((), 2, ()), False),
                                      (((), 1, ((4, 0),)), ((), 1, ()), False), (((), 1, ((3, 0),)), None, False),
                                      (((), 1, ()), None, True)):
            self.assertIs(is_table(program, ((good, sheet, sheet, behind),)), wanted, sheet)

    def test_forms(self):
        good = (("plain",), 0, ())
        for sheet in ((["plain"], 0, ()), (("plain",), 0, []), (("plain", "plain"), 0, ()), ((), 0, ()), (("plain",), False, ()),
                      (("plain",), -1, ()), (("plain",), 0, ((0, 0),)), (("plain",), 0), (("plain",), 0, (), ()), (("Plain",), 0, ()),
                      ((None,), 0, ()), (("plain",), None, ()), ("plain", 0, ()), (("plain",), 0, None), list(good), 1, "plain",
                      (("plain",), 0, ((0,),)), (("plain",), 0, ((True, 0),)), (("plain",), 0, (0, 0)), ((("plain",),), 0, ())):
            self.check(False, p2=sheet)
            self.check(False, p0=sheet)
            # At the last place, to which nothing leads, any SHEET may stand, also this one.
            self.check(sheet == (("plain",), 0, ((0, 0),)), p7=sheet)
        rows = self.rows()
        for thing in ((), rows + rows, rows[0], (rows[0][:-1],), (rows[0] + (None,),), (list(rows[0]),), ((None,) * 8,), (None,),
                      *STRANGE):
            self.assertIs(is_table(self.program, thing), False)

    def test_truths_for_numbers(self):
        rows = list(table_of(main("guard 2; constant number 1; unguard; halt"))[0])
        program = main("guard 2; constant number 1; unguard; halt")
        self.assertIs(is_table(program, (tuple(rows),)), True)
        rows[1] = ((), False, ((2, 0),))
        self.assertIs(is_table(program, (tuple(rows),)), False)
        rows[1] = ((), 0, ((2, False),))
        self.assertIs(is_table(program, (tuple(rows),)), False)


class HoldsTest(unittest.TestCase):
    """A main FRAME behind a call, a FRAME of CODE 1 behind one of CODE 2, and that of CODE 2."""

    program = made("0 3 0: constant number 1; store 0; constant number 2; store 1; box 1; guard 12; constant number 7; "
                   "close 1 slot 1; load 0; call 1; show; halt; pop; halt",
                   "1 1 1: close 2 up 0; call 0; return", "0 1 1: constant number 1; store 0; guard 4; up 0; return")
    state = (((0, 10, (1, ("@", 0), ()), (7,), None, ((12, 0),)), (1, 2, (1,), (), ("@", 1), ()),
              (2, 3, (1,), (), ("@", 2), ((4, 0),))),
             (("cell", 2), ("function", 1, (("@", 0),)), ("function", 2, (("@", 0),)), ("array", (1, ("@", 1)))), ("a",), None)

    def check(self, wanted, frames=(), objects=(), table=None, more=()):
        """Whether holds tells this of the STATE with other parts of FRAMES (frame, part, own), and other OBJECTS."""
        told_frames = [list(own) for own in self.state[0]]
        for frame, part, own in frames:
            told_frames[frame][part] = own
        told_objects = list(self.state[1]) + list(more)
        for number, own in objects:
            told_objects[number] = own
        state = (tuple(tuple(own) for own in told_frames), tuple(told_objects), (), None)
        table = table_of(self.program) if table is None else table
        for given in (state, lists_of(state)):
            self.assertIs(holds(self.program, table, given), wanted, (frames, objects))
        self.assertIs(holds(lists_of(self.program), lists_of(table), state), wanted)

    def test_as_it_is(self):
        self.check(True)
        self.assertIs(holds(self.program, table_of(self.program), self.state), True)
        self.assertIs(holds(self.program, table_of(self.program), ((), self.state[1], (), ("done",))), True)
        self.assertIs(holds(self.program, table_of(self.program), ((), (), (), ("failed", "kind"))), True)

    def test_codes_and_functions(self):
        self.check(False, [(0, 0, 1)])
        self.check(False, [(0, 4, ("@", 1))])
        self.check(False, [(1, 4, None)])
        self.check(False, [(1, 4, ("@", 2))])
        self.check(False, [(1, 4, ("@", 3))])
        self.check(False, [(1, 4, ("@", 0))])
        self.check(False, [(2, 0, 1)])
        self.check(False, [(2, 0, 9)])
        self.check(True, [(2, 4, ("@", 4))], more=[("function", 2, (("@", 0),))])

    def test_places(self):
        for place in (0, 1, 2, 4, 5, 9):
            self.check(False, [(2, 1, place)])
        self.check(True, [(2, 1, 3), (2, 3, ())])
        self.check(True, [(2, 1, 4), (2, 3, (5,)), (2, 5, ((4, 0),))])
        for place in (0, 1, 3, 9):
            self.check(False, [(1, 1, place)])
            self.check(False, [(0, 1, place)])

    def test_slots(self):
        self.check(True, [(0, 2, (None, ("@", 0), ("@", 3)))])
        # The third slot is "none": anything may be in it, also a REFERENCE to a CELL.
        self.check(True, [(0, 2, (("@", 1), ("@", 0), ("@", 0)))])
        for slots in (((), ("@", 0), ()), (("@", 0), ("@", 0), ()), (1, 1, ()), (1, (), ()), (1, ("@", 3), ()), (1, ("@", 0)),
                      (1, ("@", 0), (), ()), ()):
            self.check(False, [(0, 2, slots)])
        self.check(False, [(2, 2, ((),))])
        self.check(False, [(2, 2, (("@", 0),))])
        self.check(True, [(2, 2, (("@", 2),))])

    def test_stacks(self):
        for stack in ((), (7, 8), (("@", 0),), (7, 8, 9)):
            self.check(False, [(0, 3, stack)])
        self.check(True, [(0, 3, (("@", 3),))])
        self.check(False, [(1, 3, (1,))])
        self.check(False, [(2, 3, (1,))])

    def test_guards(self):
        for guards in ((), ((12, 1),), ((9, 0),), ((12, 0), (12, 0))):
            self.check(False, [(0, 5, guards)])
        self.check(False, [(1, 5, ((4, 0),))])
        self.check(False, [(2, 5, ())])

    def test_objects(self):
        self.check(True, objects=[(0, ("cell", ("@", 3))), (3, ("array", (("@", 3),)))])
        self.check(False, objects=[(0, ("cell", ("@", 0)))])
        self.check(False, objects=[(3, ("array", (1, ("@", 0))))])
        for function in (("function", 0, (("@", 0),)), ("function", 3, (("@", 0),)), ("function", 1, ()),
                         ("function", 1, (("@", 0), ("@", 0))), ("function", 1, (("@", 3),)), ("function", 0, ()),
                         ("function", 1, (("@", 4),))):
            self.check(False, more=[function])
        self.check(True, more=[("function", 2, (("@", 5),)), ("cell", 1)])
        self.assertIs(holds(self.program, table_of(self.program), ((), (("cell", ("@", 0)),), (), ("done",))), False)

    def test_tables(self):
        self.assertEqual(told(holds, self.program, (), self.state), raised("Unfit"))
        self.assertEqual(told(holds, self.program, table_of(self.program)[:2], self.state), raised("Unfit"))
        # A weaker TABLE tells less: the slot of the last FRAME.
        first, second, third = table_of(self.program)
        weaker = third[:2] + tuple((("none",), *sheet[1:]) for sheet in third[2:])
        self.check(True, [(2, 2, (("@", 0),))], table=(first, second, weaker))
        self.check(False, [(2, 2, (("@", 0),))])
        # A TABLE that has no SHEET at a place that is never come to.
        program = main("halt; jump 1")
        state = (((0, 1, (), (), None, ()),), (), (), None)
        self.assertIs(holds(program, table_of(program), state), False)
        self.assertIs(holds(program, (table_of(program)[0][:1] + (((), 0, ()),),), state), True)
        self.assertIs(holds(program, table_of(program), (((0, 2, (), (), None, ()),), (), (), None)), False)

    def test_calls(self):
        # The first FRAME stands behind an INSTRUCTION that is no call.
        program = made("0 1 0: close 1; store 0; load 0; call 0; pop; halt", "0 0 0: jump 0")
        table = table_of(program)
        for place in range(7):
            state = (((0, place, (("@", 0),), (), None, ()), (1, 0, (), (), ("@", 0), ())), (("function", 1, ()),), (), None)
            self.assertIs(holds(program, table, state), place == 4)


class RandomTest(unittest.TestCase):
    def programs(self):
        for seed in range(200):
            yield from (grown_program(seed), grown_program(seed, 30), shaped_program(seed), bent_program(seed))

    def test_tables_refusals_and_bars(self):
        taken = 0
        for program in self.programs():
            wanted = refusal(program)
            self.assertIs(is_taken(program), wanted is None)
            if wanted is None:
                taken += 1
                table = table_by_paths(program)
                self.assertEqual(repr(table_of(program)), repr(table))
                self.assertIs(is_table(program, table), True)
                self.assertEqual(told(bar, program), raised("CanNot"))
                self.assertEqual(tallest(program), tuple(max(own[1] for own in rows if own) for rows in table))
            else:
                self.assertEqual(told(table_of, program), raised("Refused", code=wanted[0], place=wanted[1]), program)
                found = bar(program)
                self.assertIs(is_bar(program, found), True)
                self.check_bar(program, found)
        self.assertTrue(150 < taken < 650)

    def check_bar(self, program, found):
        """Looks at a BAR by the words of the document."""
        code, *paths = found
        ends = []
        for own in paths:
            sheet = first_sheet(program[code])
            self.assertEqual(own[0], (0, ON))
            for (place, _), step in zip(own, own[1:]):
                self.assertEqual(lacks(program, code, place, sheet), "")
                sheet = dict(steps(program[code][3][place], place, sheet))[step]
            self.assertEqual(sheet_along(program, code, own), sheet)
            ends.append((own[-1][0], sheet))
        if len(ends) == 1:
            self.assertNotEqual(lacks(program, code, *ends[0]), "")
        else:
            self.assertEqual(ends[0][0], ends[1][0])
            self.assertNotEqual(ends[0][1][1:], ends[1][1][1:])

    def test_bent_tables(self):
        chance = random.Random(5)
        counts = {True: 0, False: 0}
        for program in self.programs():
            if not is_taken(program):
                continue
            for _ in range(4):
                rows = [list(own) for own in table_of(program)]
                for _ in range(chance.choice((1, 1, 2))):
                    own = rows[chance.randrange(len(rows))]
                    place = chance.randrange(len(own))
                    own[place] = self.bent_sheet(chance, own[place], len(program[rows.index(own)][3]), program[rows.index(own)][1])
                table = tuple(tuple(own) for own in rows)
                told_of = is_table(program, table)
                self.assertIs(told_of, is_table_plainly(program, table), (program, table))
                counts[told_of] += 1
        self.assertGreater(min(counts.values()), 50)

    def bent_sheet(self, chance, sheet, size, slots):
        if sheet is None:
            kinds = tuple(chance.choice(("plain", "cell", "none")) for _ in range(slots))
            return (kinds, chance.randrange(3), chance.choice(((), ((chance.randrange(size), 0),))))
        kinds, height, guards = sheet
        how = chance.choice(("none", "kind", "kind", "kind", "height", "guards"))
        if how == "none":
            return None
        if how == "kind" and kinds:
            at = chance.randrange(len(kinds))
            return (kinds[:at] + (chance.choice(("plain", "cell", "none", "none")),) + kinds[at + 1:], height, guards)
        if how == "guards":
            return (kinds, height, guards[:-1])
        return (kinds, height + (how == "height"), guards)

    def test_holds_in_each_state_of_a_run(self):
        for program in [*self.programs(), *[compiled_program(seed) for seed in range(100)]]:
            if is_taken(program):
                table = table_of(program)
                for limits in ((30, 4, 6), (5, 4, 3)):
                    for state in states_along(program, limits, 60)[::7]:
                        self.assertIs(holds(program, table, state), True)

    def test_heights_are_those_of_runs(self):
        for seed in range(60):
            program = compiled_program(seed)
            tall = tallest(program)
            for frames, _, _, _ in states_along(program, (100, 4, 9), 300):
                for at, (code, place, _, stack, _, _) in enumerate(frames):
                    more = 0 if at == len(frames) - 1 else effect_of(program[code][3][place - 1])[0]
                    self.assertLessEqual(len(stack) + more, tall[code])


if __name__ == "__main__":
    unittest.main()
