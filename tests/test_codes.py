"""Section 10 of the document: codes.py."""

import random
import unittest

from gathermill.codes import (
    codes_named, effect_of, instruction_text, is_code, is_instruction, is_program, next_places, program_read,
    program_text,
)
from tests.examples_of_document import check_file
from tests.programs import STRANGE, lists_of, raised, told
from tests.random_codes import bent_program, compiled_program, grown_program, shaped_program
from tests.reference_codes import program_of_text

# For each word: an INSTRUCTION, its effect, its next places at place 4, its text.
WORDS = (
    (("constant", 7), (0, 1), (5,), "constant number 7"),
    (("load", 1), (0, 1), (5,), "load 1"),
    (("store", 0), (1, 0), (5,), "store 0"),
    (("box", 3), (0, 0), (5,), "box 3"),
    (("open", 2), (0, 1), (5,), "open 2"),
    (("fill", 2), (1, 0), (5,), "fill 2"),
    (("up", 9), (0, 1), (5,), "up 9"),
    (("upfill", 0), (1, 0), (5,), "upfill 0"),
    (("close", 3, (("slot", 1), ("up", 0))), (0, 1), (5,), "close 3 slot 1 up 0"),
    (("call", 0), (1, 1), (5,), "call 0"),
    (("return",), (1, 0), (), "return"),
    (("pop",), (1, 0), (5,), "pop"),
    (("jump", 9), (0, 0), (9,), "jump 9"),
    (("unless", 9), (1, 0), (5, 9), "unless 9"),
    (("sure",), (1, 1), (5,), "sure"),
    (("one", "-"), (1, 1), (5,), "one -"),
    (("two", "<="), (2, 1), (5,), "two <="),
    (("array", 3), (3, 1), (5,), "array 3"),
    (("many",), (2, 1), (5,), "many"),
    (("item",), (2, 1), (5,), "item"),
    (("setitem",), (3, 0), (5,), "setitem"),
    (("length",), (1, 1), (5,), "length"),
    (("show",), (1, 0), (5,), "show"),
    (("fail",), (1, 0), (), "fail"),
    (("guard", 9), (0, 0), (5,), "guard 9"),
    (("unguard",), (0, 0), (5,), "unguard"),
    (("halt",), (0, 0), (), "halt"),
)
FIELDS = (
    None, True, False, 0, 5, 10 ** 9, 10 ** 9 + 1, 10 ** 30, -1, -10 ** 9, -10 ** 9 - 1, "", "-", "not", "+", "*", "/",
    "~", "<", "<=", "==", "!=", "=", "red", "Red", "abcdefghijkl", "abcdefghijklm", "slot", "up", (), [], ("slot", 0),
    (("slot", 0),), (("up", 7), ("slot", 10 ** 20)), [("slot", 0)], (["slot", 0],), (("slot",),), (("slot", -1),),
    (("slot", True),), (("slots", 0),), (("up", 0, 0),), (("slot", 0), None), (0,), ("slot",), ((0, "slot"),), (("", 0),),
)
HEAD = "code 0 names 0 slots 3 cells 0\n"


def fits(word, at, own):
    """Whether own may stand at this place of an INSTRUCTION, as section 3 tells."""
    kind = type(own)
    if word == "constant":
        number = kind is int and -10 ** 9 <= own <= 10 ** 9
        return number or own is None or kind is bool or (kind is str and own.isalpha() and own.islower() and len(own) < 13)
    if word == "one":
        return kind is str and own in ("-", "not")
    if word == "two":
        return kind is str and own in ("+", "-", "*", "/", "~", "<", "<=", "==", "!=")
    if at == 2:
        return kind is tuple and all(
            type(take) is tuple and len(take) == 2 and take[0] in ("slot", "up") and type(take[1]) is int and take[1] >= 0
            for take in own)
    return kind is int and own >= 0


class InstructionsTest(unittest.TestCase):
    def test_examples(self):
        check_file(self, "10")

    def test_each_word(self):
        self.assertEqual(len(WORDS), 27)
        for instruction, effect, places, text in WORDS:
            self.assertIs(is_instruction(instruction), True, instruction)
            self.assertEqual(effect_of(instruction), effect)
            self.assertEqual(next_places(instruction, 4), places)
            self.assertEqual(instruction_text(instruction), text)
            self.assertEqual(program_read(HEAD + "0 " + text), ((0, 3, 0, (instruction,)),))

    def test_each_field_bent(self):
        for instruction, _, _, _ in WORDS:
            for at in range(1, len(instruction)):
                for own in FIELDS:
                    bent = instruction[:at] + (own,) + instruction[at + 1:]
                    self.assertIs(is_instruction(bent), fits(instruction[0], at, own), bent)

    def test_other_lengths_and_words(self):
        for instruction, _, _, _ in WORDS:
            self.assertIs(is_instruction(instruction + (0,)), False)
            self.assertIs(is_instruction(list(instruction)), False)
            self.assertIs(is_instruction(instruction[:-1]), False)
            self.assertIs(is_instruction((list(instruction[:1]),) + instruction[1:]), False)
            self.assertIs(is_instruction((instruction[0].upper(),) + instruction[1:]), False)

    def test_strange_things(self):
        for thing in STRANGE:
            self.assertIs(is_instruction(thing=thing), thing == ("pop",))
            self.assertIs(is_code(thing=thing), False)
            self.assertIs(is_program(thing=thing), False)
            for place in range(4):
                good = (0, 0, 0, (("halt",),))
                self.assertIs(is_code(good[:place] + (thing,) + good[place + 1:]), {
                    0: type(thing) is int and thing == 0, 1: type(thing) is int and thing >= 0,
                    2: type(thing) is int and thing >= 0, 3: thing == (("pop",),)}[place], (place, thing))
            self.assertIs(is_program((thing,)), False)

    def test_effects_by_how_many(self):
        self.assertEqual([effect_of(("call", n)) for n in (0, 1, 30)], [(1, 1), (2, 1), (31, 1)])
        self.assertEqual([effect_of(["array", n]) for n in (0, 1, 30)], [(0, 1), (1, 1), (30, 1)])
        self.assertEqual(effect_of(instruction=("two", "=="),), (2, 1))

    def test_next_places(self):
        self.assertEqual([next_places(("unless", own), 4) for own in (0, 4, 5, 6)], [(0, 5), (4, 5), (5,), (5, 6)])
        self.assertEqual([next_places(["jump", own], 4) for own in (0, 4, 5)], [(0,), (4,), (5,)])
        self.assertEqual(next_places(place=0, instruction=("guard", 7)), (1,))


class CodesTest(unittest.TestCase):
    def test_codes(self):
        end = (("halt",),)
        for code in ((0, 0, 0, end), (2, 2, 9, end), (1, 40, 0, (("pop",),) * 2000), (0, 10 ** 20, 10 ** 20, end)):
            self.assertIs(is_code(code), True)
            self.assertIs(is_code(list(code)), False)
        for code in ((1, 0, 0, end), (-1, 0, 0, end), (0, -1, 0, end), (0, 0, -1, end), (True, 1, 0, end),
                     (0, False, 0, end), (0, 0, None, end), (0, 0, 0, ()), (0, 0, 0, [("halt",)]), (0, 0, 0, end, 0),
                     (0, 0, 0), (0, 0, end), (0, 0, 0, (("halt",), ("halt", 1))), (0, 0, 0, ("halt",))):
            self.assertIs(is_code(code), False, code)

    def test_programs(self):
        end = (("halt",),)
        for program in (((0, 0, 0, end),), ((0, 5, 0, end), (3, 3, 2, end), (0, 0, 9, end)), ((0, 0, 0, end),) * 100):
            self.assertIs(is_program(program), True)
            self.assertIs(is_program(list(program)), False)
        for program in ((), ((1, 1, 0, end),), ((0, 0, 1, end),), ((0, 0, 0, end), (0, 0, 0, ())),
                        ((0, 0, 0, end), [0, 0, 0, end]), (0, 0, 0, end)):
            self.assertIs(is_program(program), False, program)

    def test_what_is_told_need_not_be_there(self):
        self.assertIs(is_program(((0, 0, 0, (("load", 7), ("up", 7), ("close", 7, (("up", 7),)), ("jump", 7))),)), True)

    def test_codes_named(self):
        rows = [("close", own, ()) for own in (7, 2, 2, 0, 10 ** 20)]
        self.assertEqual(codes_named((0, 0, 0, tuple(rows))), (0, 2, 7, 10 ** 20))
        self.assertEqual(codes_named(code=[0, 0, 0, [["close", 3, []], ["load", 1], ["close", 1, []]]]), (1, 3))
        self.assertEqual(codes_named((0, 0, 0, (("call", 1),))), ())


class TextsTest(unittest.TestCase):
    def check_bad(self, text, line):
        self.assertEqual(told(program_read, text), raised("BadText", line=line), text)
        self.assertEqual(program_of_text(text), line, text)

    def test_texts(self):
        program = ((0, 2, 0, (("constant", None), ("close", 1, (("slot", 1), ("up", 0))), ("one", "not"), ("halt",))),
                   (1, 2, 2, (("constant", False), ("constant", "nothing"), ("constant", -10 ** 9), ("return",))))
        text = ("code 0 names 0 slots 2 cells 0\n0 constant nothing\n1 close 1 slot 1 up 0\n2 one not\n3 halt\n"
                "code 1 names 1 slots 2 cells 2\n0 constant truth false\n1 constant word nothing\n"
                "2 constant number -1000000000\n3 return\n")
        self.assertEqual(program_text(program), text)
        self.assertEqual(program_text(program=lists_of(program)), text)
        self.assertEqual(instruction_text(instruction=["close", 0, []]), "close 0")
        self.assertEqual(program_read(text=text), program)

    def test_blanks_and_idle_lines(self):
        wanted = ((0, 3, 0, (("load", 2), ("close", 1, (("slot", 0),)), ("halt",))), (0, 0, 1, (("up", 0),)))
        text = ("\n   \n  code   0 names 0    slots 3 cells 0   \n\n0  load 2\n   1 close   1  slot 0 \n 2 halt\n\n"
                "code 1 names 0 slots 0 cells 1\n   0 up 0")
        self.assertEqual(program_read(text), wanted)
        self.assertEqual(program_read(text + "\n\n  \n"), wanted)

    def test_numbers(self):
        self.assertEqual(program_read(HEAD + "0 load 999999999999"), ((0, 3, 0, (("load", 999999999999),)),))
        for bad in ("1000000000000", "00", "01", "-0", "-1", "+1", "1.", "", "x", "-", "1_0", "0x1", "\u0661", "0\t"):
            self.check_bad(HEAD + "0 load " + bad, 2)
            self.check_bad(HEAD + "0 close " + bad, 2)
            self.check_bad(HEAD + "0 close 0 slot " + bad, 2)
            if bad != "0\t":
                self.check_bad(HEAD + bad + " halt", 2)
            self.check_bad("code 0 names 0 slots " + bad + " cells 0\n0 halt", 1)
        for own in (10 ** 9, -10 ** 9, 0, -1):
            self.assertEqual(program_read(f"{HEAD}0 constant number {own}")[0][3], (("constant", own),))
        for bad in ("1000000001", "-1000000001", "-0", "00", "--1", "- 1", "1 1", "", "-", "true", "999999999999"):
            self.check_bad(HEAD + "0 constant number " + bad, 2)

    def test_constants(self):
        self.assertEqual(program_read(HEAD + "0 constant word abcdefghijkl")[0][3], (("constant", "abcdefghijkl"),))
        for bad in ("word abcdefghijklm", "word", "word A", "word a1", "word a b", "truth", "truth 1", "truth nothing",
                    "truth True", "nothing 1", "nothing nothing", "", "1", "true", "red", "reference 0", "none"):
            self.check_bad(HEAD + "0 constant " + bad, 2)

    def test_instructions(self):
        for bad in ("load", "load 1 1", "halt 0", "stop", "", "one", "one +", "one not not", "two not", "two", "two <>",
                    "close", "close 1 slot", "close 1 0", "close 1 down 0", "close 1 slot 0 up", "close slot 0",
                    "call -1", "HALT", "halt\r", "\u00a0halt", "code", "unless", "jump two", "array 1 2"):
            self.check_bad(HEAD + "0 " + bad, 2)

    def test_places(self):
        for bad in ("1 halt", "halt", "0 halt\n0 halt", "0 halt\n2 halt", "0 halt\n1 pop\n3 pop"):
            self.check_bad(HEAD + bad, 2 + bad.count("\n"))
        self.check_bad("0 halt", 1)
        self.check_bad("\n0 halt\n" + HEAD, 2)

    def test_heads(self):
        for bad in ("code 1 names 0 slots 0 cells 0", "code 0 names 1 slots 1 cells 0", "code 0 names 0 slots 0 cells 1",
                    "code 0 names 0 slots 0", "code 0 slots 0 names 0 cells 0", "code 0 names 0 slots 0 cells 0 0",
                    "code", "code 0", "0 names 0 slots 0 cells 0", "Code 0 names 0 slots 0 cells 0", "a code"):
            self.check_bad(bad + "\n0 halt", 1)
        first = HEAD + "0 halt\n"
        self.check_bad(first + "code 1 names 2 slots 1 cells 0\n0 pop", 3)
        self.check_bad(first + "code 2 names 0 slots 0 cells 0\n0 pop", 3)
        self.check_bad(first + HEAD + "0 pop", 3)
        self.assertEqual(program_read(first + "code 1 names 2 slots 2 cells 7\n0 pop")[1], (2, 2, 7, (("pop",),)))

    def test_codes_without_instructions(self):
        self.check_bad(HEAD + "code 1 names 0 slots 0 cells 0\n0 pop", 2)
        self.check_bad(HEAD + "\n\ncode 1 names 0 slots 0 cells 0\n0 pop", 4)
        self.check_bad(HEAD + "0 halt\ncode 1 names 0 slots 0 cells 0\ncode 2 names 0 slots 0 cells 0\n0 pop", 4)
        self.check_bad(HEAD.strip(), 2)
        self.check_bad(HEAD, 3)
        self.check_bad(HEAD + "0 halt\ncode 1 names 0 slots 0 cells 0\n\n", 6)

    def test_texts_without_a_code(self):
        for text in ("", "\n", "  ", " \n\n "):
            self.check_bad(text, text.count("\n") + 2)

    def test_the_first_bad_line_is_told(self):
        self.check_bad(HEAD + "0 load 1\n1 loaf 1\n7 halt", 3)
        self.check_bad(HEAD + "\n0 load 1\n\n2 load 1\ncode 0", 5)


class RandomTest(unittest.TestCase):
    def programs(self):
        for seed in range(150):
            yield from (grown_program(seed, 20), shaped_program(seed), bent_program(seed), compiled_program(seed))

    def test_texts_are_read_again(self):
        for program in self.programs():
            self.assertIs(is_program(program), True)
            self.assertIs(is_program(lists_of(program)), False)
            self.assertEqual(repr(program_read(program_text(program))), repr(program))

    def test_bent_texts(self):
        chance = random.Random(1)
        bad = 0
        for program in self.programs():
            text = program_text(program)
            for _ in range(3):
                at = chance.randrange(len(text) + 1)
                parts = ("", " ", "\n", "0", "1", "-", "up", " slot 0", "code ", "\n\n", " a", "\nhalt")
                bent = text[:at] + chance.choice(parts) + text[at + chance.choice((0, 0, 1, 2, 5, 40)):]
                wanted = program_of_text(bent)
                bad += isinstance(wanted, int)
                wanted = raised("BadText", line=wanted) if isinstance(wanted, int) else wanted
                self.assertEqual(told(program_read, bent), wanted, bent)
        self.assertGreater(bad, 300)


if __name__ == "__main__":
    unittest.main()
