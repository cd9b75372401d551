"""Section 24 of the document: desk.py."""

import random
import unittest

from gathermill.codes import program_text
from gathermill.compiler import compiled_text
from gathermill.desk import desk, is_request
from gathermill.images import image_of
from gathermill.mill import mill_begun, mills_along
from gathermill.trees import tree_text
from tests.examples_of_document import check_file
from tests.programs import STRANGE, main, nested, raised, told
from tests.random_codes import bent_program, compiled_program, shaped_program
from tests.random_trees import random_program
from tests.reference_desk import PlainDesk, request_text
from tests.test_memory import CALM
from tests.test_mill import BUSY

TEXTED = ("text", "codes", "read")
BARE = ("whole", "undo", "shown", "end", "turns", "frames", "at", "words", "breaches", "image")
TALE = "text\n let a = [1, 2];\n let f = fn (n) { return [n, a]; };\n show len(f(3));\n show f(4)[0];\n a = 0;"


class RequestTest(unittest.TestCase):
    def test_examples(self):
        check_file(self, "24")

    def test_good_ones(self):
        for thing in (*BARE, "limits 5 4 1", "limits 0 0 0", "limits 999999 999999 999999", "schedule 0", "schedule 1 2 3", "schedule " + "7 " * 39 + "0", "turn 0",
                      "turn 999999", *[word + "\n " for word in TEXTED], *[word + "\n anything\n  at all\n " for word in TEXTED], "text\n \n \n ", "read\n turn 1"):
            self.assertIs(is_request(thing), True, thing)
        self.assertIs(is_request(thing="end"), True)

    def test_wrong_words_and_numbers(self):
        for thing in ("", " ", "\n", "ends", "End", "END", "end.", "turn", "turn 1 2", "turn -1", "turn +1", "turn 01", "turn 00", "turn 1000000", "turn 0000001", "turn one",
                      "turn 1.0", "limits", "limits 1 4", "limits 1 4 1 1", "limits 1 04 1", "limits 1 4 1234567", "schedule", "schedule -1", "schedule 1 02", "schedule 1 1000000",
                      "end 1", "whole 0", "undo 1", "image x", "text 1\n x", "codes x\n x", "read 5\n x", "turn\t1", "turn 1\t", "turn ²", "turn ١", "limit 1 4 1", "halt", "0", "turn1",
                      *[f"{word} {own}" for word in BARE for own in ("0", "1")], *[f"{word} {own}\n x" for word in TEXTED for own in ("0", "1")]):
            self.assertIs(is_request(thing), False, thing)
            if thing:
                self.assertEqual(told(desk, thing), raised("BadText", line=1), thing)

    def test_blanks(self):
        for good in (*BARE, "limits 5 4 1", "schedule 0 1", "turn 3"):
            for wrong in (" " + good, good + " ", "  " + good, good.replace(" ", "  ") if " " in good else good + "  ", good.replace(" ", "") if " " in good else good[0] + " " + good[1:]):
                self.assertIs(is_request(wrong), False, wrong)
                self.assertEqual(told(desk, wrong), raised("BadText", line=1))
        for word in TEXTED:
            for wrong in (f"{word} \n x", f" {word}\n x", f"{word}  \n x"):
                self.assertIs(is_request(wrong), False)
                self.assertEqual(told(desk, wrong), raised("BadText", line=1))

    def test_texts(self):
        for word in TEXTED:
            self.assertIs(is_request(word), False)
            self.assertIs(is_request(word + "\n"), False)
            self.assertIs(is_request(word + "\n x\n"), False)
            self.assertIs(is_request(word + "\nx"), False)
            self.assertEqual(told(desk, word), raised("BadText", line=1))
            self.assertEqual(told(desk, f"end\n{word}\nend"), raised("BadText", line=2))
        for good in (*BARE, "limits 5 4 1", "schedule 0 1", "turn 3"):
            self.assertIs(is_request(good + "\n x"), False)
            self.assertIs(is_request(good + "\n "), False)
            self.assertEqual(told(desk, f"end\n{good}\n x"), raised("BadText", line=2))
            self.assertEqual(told(desk, f"end\nend\n{good}\n \n end"), raised("BadText", line=3))

    def test_one_alone(self):
        for thing in ("end\nend", "end\n", "\nend", "turn 1\nend", "text\n x\nend", " end", "end\n\nend", "\n", "\n\n"):
            self.assertIs(is_request(thing), False)

    def test_other_things(self):
        for thing in (*STRANGE, nested(100), ["end"], ("end",), b"end"):
            self.assertIs(is_request(thing), False)

    def test_lines(self):
        self.assertEqual(desk(""), [])
        self.assertEqual(desk(text=""), [])
        for text, line in (("\n", 1), ("end\n", 2), ("end\n\n", 2), ("end\n\nend", 2), ("\nend", 1), (" end", 1), (" \nend", 1), (" text\n x", 1), ("end\n x", 1),
                           ("text\n x\n", 3), ("text\n x\n\n y", 3), ("text\n\n x", 1), ("end\nturn 1\nhello\nend", 3), ("text\n x;\n y;\nend\nwhole 1", 5),
                           ("turn 5\nturn 05\nhello", 2), ("codes\n \nend \nend", 3), ("turn 9\ntext\n a = 1;\nread\nend", 4), ("end\n \nend", 1), ("read\n x\nread", 3)):
            self.assertEqual(told(desk, text), raised("BadText", line=line), text)
            self.assertEqual(told(desk, text=text), raised("BadText", line=line))
            self.assertIs(is_request(text), False)


class DeskTest(unittest.TestCase):
    def check(self, text, *wanted):
        self.assertEqual(desk(text), list(wanted))
        self.assertEqual(desk(text=text), list(wanted))
        self.assertIs(type(desk(text)), list)

    def test_at_first(self):
        self.check("\n".join(("shown", "end", "turns", "frames", "at", "words", "breaches", "image", "undo")),
                   "-", "going", "0", "1", "0 0", "0 0 200", "-", image_of(mill_begun(main("halt"), (200, 40, 20))), "refused CanNot")
        self.check("turn 5\nshown\nend\nturns\nframes\nat\nwords\nbreaches", "done", "-", "done", "1", "0", "-", "0 0 200", "-")
        for n, end in ((18, "done"), (19, "failed deep")):
            self.check(f"text\n let f = fn (n) {{ if 0 < n {{ f(n - 1); }} }}; f({n});\nturn 999\nend", "done", "done", end)
        for n, end in ((198, "done"), (199, "failed room")):
            self.check(f"text\n let a = many({n}, 0); let b = [];\nturn 999\nend", "done", "done", end)
        # At first the SCHEDULE is (1,): a step is done ahead of the halt.
        self.check("turn 1\nimage", "done", image_of(mills_along(main("halt"), (200, 40, 20), (1,), 1)[-1]))

    def test_text(self):
        self.check("turn 1\ntext\n show 5;\nturns\nend\nturn 9\nshown\nend\nturns", "done", "done", "0", "going", "done", "5", "done", "3")
        self.check("text\n \nat\nturn 2\nend", "done", "0 0", "done", "done")
        self.check("text\n show 1;\n  # a remark\n \n show 2;\nturn 99\nshown", "done", "done", "1\n2")
        for own, name in (("show b;", "NoName"), ("b = 1;", "NoName"), ("let a = 1; let a = 2;", "Twice"), ("break;", "Misplaced"), ("return 1;", "Misplaced"), ("show 1", "BadText"),
                          ("1", "BadText"), ("show 01;", "BadText"), ("\x7f", "BadText")):
            self.check(f"turn 1\ntext\n {own}\nend\nundo", "done", "refused " + name, "done", "turn")

    def test_codes(self):
        text = program_text(main("constant number 7; show; halt")).rstrip("\n").replace("\n", "\n ")
        self.check(f"codes\n {text}\nturn 2\nshown\nat", "done", "done", "7", "0 2")
        self.check(f"codes\n   {text}\n \n\x20\nturn 9\nshown\nend", "done", "done", "7", "done")
        for own, name in ((" ", "BadText"), ("", "BadText"), ("0 halt", "BadText"), ("code 0 names 0 slots 0 cells 0", "BadText"), ("code 0 names 0 slots 0 cells 0\n 0 pop\n 1 halt", "Refused"),
                          ("code 0 names 0 slots 0 cells 0\n 0 jump 5", "Refused"), ("code 0 names 0 slots 0 cells 0\n 0 pop\n 1 what", "BadText")):
            self.check(f"codes\n {own}\nend\nundo", "refused " + name, "going", "refused CanNot")

    def test_limits(self):
        self.check("limits 7 4 1\nwords\nturn 1\nlimits 0 4 1\nwords\nend", "done", "0 0 7", "done", "done", "0 0 0", "going")
        for own in ("5 3 1", "5 0 1", "5 4 0", "0 0 0", "5 3 0"):
            self.check(f"limits 9 4 1\nlimits {own}\nwords\nundo\nwords", "done", "refused Unfit", "0 0 9", "limits", "0 0 200")
        down = "text\n let f = fn (n) { return f(n + 1); }; f(0);"
        self.check(f"{down}\nlimits 50 4 3\nturn 999\nend\nlimits 50 4 1\nturn 999\nend", "done", "done", "done", "failed deep", "done", "done", "failed deep")

    def test_schedule(self):
        # The run goes on, with the steps that the SCHEDULE tells by how many turns are done.
        for schedule in ((0,), (3,), (0, 0, 0, 5), (1, 0)):
            program = compiled_text(TALE[6:].replace("\n ", "\n"))
            mills = mills_along(program, (200, 40, 20), (0,) * 4 + tuple(schedule[at % len(schedule)] for at in range(4, 40)), 12)
            told_words = " ".join(map(str, schedule))
            self.check(f"{TALE}\nschedule 0\nturn 4\nschedule {told_words}\nturns\nturn 8\nimage", "done", "done", "done", "done", "4", "done", image_of(mills[12]))

    def test_turns(self):
        self.check(f"{TALE}\nturn 0\nturns\nturn 3\nturns\nturn 999\nturns\nend\nturn 0\nturn 1\nundo\nturns\nundo\nturns\nundo\nundo\nundo",
                   "done", "done", "0", "done", "3", "done", "29", "done", "refused CanNot", "refused CanNot", "turn", "3", "turn", "0", "turn", "text", "refused CanNot")
        self.check("turn 0\nundo\nundo", "done", "turn", "refused CanNot")

    def test_whole(self):
        self.check("text\n let a = [1, 2, 3]; a = 0;\nschedule 0\nturn 7\nwords\nwhole\nwords\nundo\nwords\nturn 99\nwhole\nwords",
                   "done", "done", "done", "4 0 200", "done", "0 0 200", "whole", "4 0 200", "done", "refused CanNot", "4 0 200")

    def test_answers(self):
        self.check(f"{TALE}\nturn 12\nframes\nat\nshown\nend\nturn 999\nshown\nframes\nat\nend", "done", "done", "2", "1 2", "-", "going", "done", "2\n4", "0", "-", "done")
        self.check('text\n fail [1, 2];\nturn 9\nend\ntext\n fail "red";\nturn 9\nend\ntext\n 1 / 0;\nturn 9\nend', "done", "done", "failed array 2", "done", "done", "failed red", "done", "done",
                   "failed divide")

    def test_undo(self):
        # All is held as ahead of the deed; answers and what is refused are not taken back.
        self.check("limits 9 4 2\nschedule 0\ntext\n show [];\nturn 1\nwords\nturn 1\nend\ntext\n show b;\nlimits 1 1 1\nundo\nturns\nend\nundo\nturns\nundo\nundo\nundo\nwords\nundo\nundo",
                   "done", "done", "done", "done", "1 1 9", "done", "going", "refused NoName", "refused Unfit", "turn", "1", "going", "turn", "0", "text", "schedule", "limits", "0 0 200",
                   "refused CanNot", "refused CanNot")
        # A deed behind an undo is taken back alone.
        self.check("turn 1\nundo\nlimits 9 4 1\nundo\nundo\nturn 1\nend\nundo\nend", "done", "turn", "done", "limits", "refused CanNot", "done", "done", "turn", "going")
        self.check("limits 9 4 1\nlimits 8 4 1\nundo\nwords\nlimits 7 4 1\nundo\nwords\nundo\nwords", "done", "done", "limits", "0 0 9", "done", "limits", "0 0 9", "limits", "0 0 200")

    def test_read(self):
        program = compiled_text("let a = [1]; let b = [a, a]; show len(b); b = 0;")
        text = "text\n let a = [1]; let b = [a, a]; show len(b); b = 0;"
        mills = mills_along(program, (30, 8, 1), (2, 0), 99)
        for at, mill in enumerate(mills):
            image = image_of(mill)
            own = "read\n " + image.replace("\n", "\n ")
            shown = "\n".join(mill[2]) or "-"
            self.check(f"limits 30 8 1\n{text}\nturn 2\n{own}\nimage\nturns\nshown\nundo\nturns", "done", "done", "done", "done", image, "2", shown, "read", "2")
            if at + 1 < len(mills):
                # The turns that are done stay, so the SCHEDULE goes on from there.
                again = f"limits 30 8 1\n{text}\nschedule 2 0\nturn {at}\n{own}\nturn 1\nimage\nturn 99\nshown\nend"
                rest = ["done"] * 6 + [image_of(mills[at + 1])]
                self.check(again, *rest, "done" if at + 2 < len(mills) else "refused CanNot", "2", "done")
            # Another room, another nursery, another PROGRAM.
            self.check(f"limits 31 8 1\n{text}\n{own}\nundo", "done", "done", "refused Unfit", "text")
            self.check(f"limits 30 9 1\n{text}\n{own}\nundo", "done", "done", "refused Unfit", "text")
            fits = not mill[0] or mill[0][0][1] == 0 and len(mill[0][0][2]) == 0
            self.check(f"limits 30 8 1\ntext\n show 1;\n{own}", "done", "done", "done" if fits else "refused Unfit")
            # Another deep one is none of the room and the nursery.
            self.check(f"limits 30 8 7\n{text}\n{own}", "done", "done", "done")

    def test_what_can_not_be_read(self):
        mill = mills_along(compiled_text("let a = [1]; show a;"), (30, 8, 1), (0,), 4)[4]
        frame = mill[0][0]
        turned = [(((*frame[:1], own, *frame[2:]),), *mill[1:]) for own in (0, 3, 5, 6, 99)]
        turned += [(((own, *frame[1:]),), *mill[1:]) for own in (1, 99)]
        turned += [(((*frame[:2], own, *frame[3:]),), *mill[1:]) for own in ((), (5, 5), ((),))]
        turned += [(((*frame[:3], own, *frame[4:]),), *mill[1:]) for own in ((), (5, 5))]
        turned += [(((*frame[:4], ("@", 0), ()),), *mill[1:]), (((*frame[:5], ((0, 0),)),), *mill[1:]), (mill[0] * 2, *mill[1:])]
        for own in turned:
            image = image_of(own).replace("\n", "\n ")
            self.check(f"limits 30 8 1\ntext\n let a = [1]; show a;\nturn 2\nread\n {image}\nat", "done", "done", "done", "refused Unfit", "0 2")
        good = image_of(mill)
        for own, name in ((good[:-1], "BadText"), (good.replace("mill 1", "mill 2"), "BadText"), (good.replace("nothing\nsigns", "true\nsigns"), "BadText"), ("", "BadText"),
                          ("mill 1\n()\n()\n()\nnothing\nsigns 24\nclose", "Unfit"), (good.replace("(30 8", "(80 8"), "Unfit"), (good, "done")):
            reply = "done" if name == "done" else "refused " + name
            self.check(f"limits 30 8 1\ntext\n let a = [1]; show a;\nread\n " + own.replace("\n", "\n "), "done", "done", reply)

    def test_breaches(self):
        # An image may be read that breaks a sentence where no FRAME leads: a FUNCTION there has no CELL.
        words = (("array", 0), ("function", 1, 1), ("@", 0), *[("free",)] * 21)
        mill = (((0, 0, (), (), None, ()),), (8, 8, words, 3, 0, 8, None, 0, ()), (), None)
        image = image_of(mill).replace("\n", "\n ")
        self.check(f"limits 8 8 1\nbreaches\nread\n {image}\nbreaches\nwords\nwhole\nbreaches", "done", "-", "done", "cells", "3 0 8", "done", "-")

    def test_memories(self):
        # What is read lies as it lies: the MEMORY of another run of a PROGRAM may be held, too.
        mill = (((0, 0, (), (), None, ()),), CALM, ("x", "y z"), None)
        image = image_of(mill).replace("\n", "\n ")
        self.check(f"limits 12 6 1\nread\n {image}\nshown\nwords\nwhole\nwords\nturn 1\nend", "done", "done", "x\ny z", "12 0 12", "done", "0 0 12", "done", "done")


class RandomTest(unittest.TestCase):
    def texts(self, chance):
        """A request with a text."""
        seed = chance.randrange(10 ** 6)
        how = chance.randrange(8)
        if how < 3:
            return ["text"], tree_text(random_program(seed, 3))
        if how == 3:
            return ["text"], chance.choice(("show b;", "let a = 1; let a = 2;", "return 1;", "show 1", "", "let l = [1]; while true { l = [l]; }"))
        if how < 7:
            program = (compiled_program(seed), shaped_program(seed), bent_program(seed), BUSY[seed % len(BUSY)])[seed % 4]
            return ["codes"], program_text(program)
        return ["codes"], chance.choice(("", "code 0 names 0 slots 0 cells 0\n0 pop", "0 halt", "code 0 names 0 slots 0 cells 0\n0 halt\n"))

    def request(self, chance, images):
        how = chance.randrange(20)
        if how < 4:
            return self.texts(chance)
        if how < 6:
            return ["limits", *map(str, (chance.choice((0, 5, 12, 30, 30)), chance.choice((3, 4, 8, 8)), chance.choice((0, 1, 5))))], None
        if how == 6:
            return ["schedule", *[str(chance.choice((0, 1, 2, 7))) for _ in range(chance.randrange(1, 4))]], None
        if how < 11:
            return ["turn", str(chance.choice((0, 1, 3, 10, 60)))], None
        if how == 11 and images:
            return ["read"], chance.choice(images) if chance.randrange(4) else chance.choice(images)[:-1]
        if how < 14:
            return ["undo"], None
        return [chance.choice(BARE)], None

    def test_as_the_functions_tell(self):
        counts = {}
        for seed in range(60):
            chance = random.Random(seed)
            plain = PlainDesk()
            requests, wanted, images = [], [], []
            for _ in range(60):
                words, text = self.request(chance, images)
                requests.append(request_text(words, text))
                wanted.append(plain.reply(words, text))
                images.append(image_of(plain.held["mill"]))
                counts[words[0], wanted[-1].split(" ")[0] == "refused"] = counts.get((words[0], wanted[-1].split(" ")[0] == "refused"), 0) + 1
                self.assertNotEqual(wanted[-1], "refused Fault")
                self.assertIs(is_request(requests[-1]), True)
            self.assertEqual(desk("\n".join(requests)), wanted)
        for word in ("text", "codes", "limits", "turn", "whole", "read", "undo"):
            self.assertGreater(min(counts.get((word, False), 0), counts.get((word, True), 0)), 3, counts)


if __name__ == "__main__":
    unittest.main()
