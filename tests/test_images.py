"""Section 22 of the document: images.py."""

import random
import re
import unittest

from gathermill.checker import is_taken
from gathermill.compiler import compiled_text
from gathermill.images import image_of, mill_read
from gathermill.machine import run_plain
from gathermill.memory import memory_begun
from gathermill.mill import is_mill, mill_begun, mill_stepped, mills_along
from tests.examples_of_document import check_file
from tests.programs import lists_of, main, raised, told
from tests.random_codes import compiled_program, grown_program, shaped_program
from tests.test_memory import CALM, GOES
from tests.test_mill import BUSY, states_until
from tests.test_holds import SOUND

def image_with(frames="()", memory=None, shown="()", end='("done")', signs=None, last="close"):
    """A text with these lines."""
    if memory is None:
        memory = written(memory_begun(0, 4))
    ahead = f"mill 1\n{frames}\n{memory}\n{shown}\n{end}\n"
    return f"{ahead}signs {len(ahead) if signs is None else signs}\n{last}"


def written(value):
    """The writing of a value, written down once more."""
    if isinstance(value, tuple):
        return "(" + " ".join(map(written, value)) + ")"
    if value is True or value is False or value is None:
        return {True: "true", False: "false", None: "nothing"}[value]
    return '"' + value + '"' if isinstance(value, str) else str(value)


def is_writing(row):
    """Whether a line is the writing of one value: V is put for strings, for numbers and the like, then for tuples of V."""
    if "V" in row:
        return False
    row = re.sub(r'"[a-z0-9@ -]*"', "V", row)
    row = re.sub(r'(?<![A-Za-z0-9"@-])(true|false|nothing|0|-?[1-9][0-9]*)(?![A-Za-z0-9"@-])', "V", row)
    while re.search(r"[(](V( V)*)?[)]", row):
        row = re.sub(r"(?<!V)[(](V( V)*)?[)](?![V(])", "V", row, count=1) if re.search(r"(?<!V)[(](V( V)*)?[)](?![V(])", row) else ""
    return row == "V"


def mended(rows):
    """The text of these lines with the right number of signs in the sixth one."""
    ahead = "".join(row + "\n" for row in rows[:5])
    return "\n".join([*rows[:5], f"signs {len(ahead)}", *rows[6:]])


class ImageTest(unittest.TestCase):
    def check(self, mill):
        text = image_of(mill)
        rows = text.split("\n")
        self.assertEqual(rows[:5], ["mill 1", *map(written, mill)])
        self.assertEqual(rows[5:], [f"signs {text.index('signs')}", "close"])
        self.assertEqual(image_of(lists_of(mill)), text)
        self.assertEqual(image_of(mill=mill), text)
        self.assertEqual(repr(mill_read(text)), repr(mill))
        self.assertEqual(repr(mill_read(text=text)), repr(mill))
        return text

    def test_examples(self):
        check_file(self, "22")

    def test_mills(self):
        for mill in (SOUND, ((), CALM, ("1", "array 2", "-5", "true"), ("done",)), ((), GOES, (), ("failed", "function 3")),
                     (((0, 0, ((), None, True, False, -7, "red"), (), None, ((5, 1), (0, 0))),), memory_begun(0, 4), (), None)):
            self.assertIs(is_mill(mill), True)
            self.check(mill)

    def test_lines(self):
        mill = (((3, 4, ((), ("@", 0), True), (-5, None, "red"), ("@", 0), ((7, 1),)),),
                (2, 4, (("cell",), False, *[("free",)] * 6), 2, 0, 4, None, 0, ()), ("array 0", "-5"), None)
        self.assertEqual(self.check(mill), 'mill 1\n((3 4 (() ("@" 0) true) (-5 nothing "red") ("@" 0) ((7 1))))\n'
                                           '(2 4 (("cell") false ("free") ("free") ("free") ("free") ("free") ("free")) 2 0 4 nothing 0 ())\n'
                                           '("array 0" "-5")\nnothing\nsigns 189\nclose')

    def test_strings(self):
        # Strings, maybe empty, of letters, figures, -, @ and blanks.
        for own in ("", " ", "a", "a b", "-", "@", "0", "array 12", "   x-@9  "):
            self.check(((), memory_begun(0, 4), (own, own), ("failed", own)))
            self.assertEqual(mill_read(image_with(shown=f'("{own}")'))[2], (own,))
        for own in ("A", "a.b", "(", "a_b", "a'b", "#", "~"):
            self.assertEqual(told(mill_read, image_with(shown=f'("{own}")')), raised("BadText", line=4))


class TextsTest(unittest.TestCase):
    text = image_of(SOUND)

    def check(self, text, line):
        self.assertEqual(told(mill_read, text), raised("BadText", line=line), text)

    def test_cut_short(self):
        begins = [0]
        for at, sign in enumerate(self.text):
            if sign == "\n":
                begins.append(at + 1)
        for end in range(len(self.text)):
            text = self.text[:end]
            line = text.count("\n") + 1
            # Where a line is whole, the one behind it lacks.
            whole = self.text[end] == "\n"
            self.check(text, line + 1 if whole else line)

    def test_lines_left_out(self):
        rows = self.text.split("\n")
        for at in range(7):
            fewer = rows[:at] + rows[at + 1:]
            wanted = told(mill_read, "\n".join(fewer))
            self.assertIn(wanted[1].get("line"), range(1, 8))
            line = {0: 1, 1: 5, 2: 5, 3: 5, 4: 5, 5: 6, 6: 7}[at]
            self.check("\n".join(fewer), line)
            # The number of signs told rightly does not help.
            if 0 < at < 5:
                self.check(mended(fewer), 5)

    def test_lines_put_in_twice(self):
        rows = self.text.split("\n")
        for at in range(7):
            more = rows[:at + 1] + rows[at:]
            self.check("\n".join(more), {0: 2, 6: 8, 5: 7}.get(at, 6))
            if 0 < at < 5:
                # With the right number of signs a line is too much all the same.
                ahead = "\n".join(more[:6]) + "\n"
                self.check(ahead + f"signs {len(ahead)}\nclose", 6)

    def test_lines_exchanged_with_their_neighbours(self):
        rows = self.text.split("\n")
        for at in range(6):
            other = rows[:at] + [rows[at + 1], rows[at]] + rows[at + 2:]
            if at in (1, 2, 3):
                # All are writings, as many signs as before, but no MILL.
                self.assertEqual(told(mill_read, "\n".join(other)), raised("Unfit"))
            else:
                self.check("\n".join(other), {0: 1, 4: 5, 5: 6}[at])

    def test_blanks(self):
        rows = self.text.split("\n")
        for at in range(7):
            for place in range(len(rows[at]) + 1):
                row = rows[at][:place] + " " + rows[at][place:]
                self.check_row(rows, at, row)
                if place < len(rows[at]) and rows[at][place] == " ":
                    self.check_row(rows, at, rows[at][:place] + rows[at][place + 1:])

    def check_row(self, rows, at, row):
        """What is told with another row: where this is a writing, too, the number of signs is wrong."""
        self.check("\n".join(rows[:at] + [row] + rows[at + 1:]), 6 if 0 < at < 5 and is_writing(row) else at + 1)

    def test_signs_in_the_lines(self):
        for at, row, line in ((0, "mill 2", 1), (0, "mill", 1), (0, "mill  1", 1), (0, "mill 01", 1), (0, "", 1), (0, "Mill 1", 1), (0, "mill 1 1", 1),
                              (5, "signs", 6), (5, "signs 0", 6), (5, "signs -1", 6), (5, "", 6), (6, "closed", 7), (6, "", 7), (6, "Close", 7), (6, "close 1", 7)):
            rows = self.text.split("\n")
            rows[at] = row
            self.check("\n".join(rows), line)
        rows = self.text.split("\n")
        many = int(rows[5].split()[1])
        for row in (f"signs {many + 1}", f"signs {many - 1}", f"signs 0{many}", f"signs  {many}", f"signs {many} ", f" signs {many}", f"signs +{many}",
                    f"sign {many}", f"signs {many}{many}"):
            self.check("\n".join(rows[:5] + [row] + rows[6:]), 6)
        self.check(self.text + "\n", 8)
        self.check(self.text + "\n\n", 8)
        self.check(self.text + "\n" + self.text, 8)
        self.check(self.text + " ", 7)

    def test_too_few_lines(self):
        for text, line in (("", 1), ("\n", 1), ("mill 1", 2), ("mill 1\n", 2), ("mill 1\n()", 3), ("mill 1\n()\n()", 4), ("mill 1\n()\n()\n5", 5),
                           ("mill 1\n()\n()\n5\n-7", 6), ("mill 1\n()\n()\n5\n-7\nsigns 18", 7), ("mill 1\n()\n()\n5\n-7\nsigns 17\nclose", 6),
                           ("mill 1\n\n()\n()\n()", 2)):
            self.check(text, line)
        self.assertEqual(told(mill_read, "mill 1\n()\n()\n5\n-7\nsigns 18\nclose"), raised("Unfit"))

    def test_writings(self):
        good = ("()", "0", "-1", "10", "999999999999", "-999999999999", "true", "false", "nothing", '""', '"a"', '"true"', "(())", "(() ())", "(1 2 3)",
                '("@" 5)', "((1) (2 (3)))", '(" " "  ")', "(true)", "((((((((()))))))))")
        bad = ("", " ", "( )", "(1 )", "( 1)", "(1  2)", "01", "-0", "-01", "00", "--1", "+1", "1.0", "1-", "1 2", "() ()", "()()", "(", ")", "())", "(()",
               "(1 (2)", "[1]", "(1,2)", "(1)(2)", "(1(2))", "truth", "True", "none", "None", "nothing1", "true false", '"', '"a', 'a"', '"a""b"', '("a""b")',
               '("a"1)', "a", "'a'", '"a.b"', '"A"', '"\\"', "(1 2", "1)", "-", "(-)", "()1", "1()", " ()", "() ", "(true,)", "(nothing nothing )", '"a"b')
        for number, row in [(at, own) for own in good for at in (1, 2, 3, 4)]:
            rows = ["mill 1", "()", "()", "()", "()", "", "close"]
            rows[number] = row
            self.assertIs(is_writing(row), True, row)
            self.assertEqual(told(mill_read, mended(rows)), raised("Unfit"), row)
        for number, row in [(at, own) for own in bad for at in (1, 2, 3, 4)]:
            rows = ["mill 1", "()", "()", "()", "()", "", "close"]
            rows[number] = row
            self.assertIs(is_writing(row), False, row)
            self.check(mended(rows), number + 1)
            # The first line decides.
            rows[4] = "bad"
            self.check(mended(rows), number + 1 if number < 4 else 5)

    def test_deep_ones(self):
        for many in (100, 5000):
            row = "(" * many + ")" * many
            self.assertEqual(told(mill_read, mended(["mill 1", row, "()", "()", "()", "", "close"])), raised("Unfit"))
            self.check(mended(["mill 1", row + ")", "()", "()", "()", "", "close"]), 2)
            self.check(mended(["mill 1", row[:-1], "()", "()", "()", "", "close"]), 2)

    def test_no_mills(self):
        self.assertEqual(mill_read(image_with()), ((), memory_begun(0, 4), (), ("done",)))
        for parts in (dict(end="nothing"), dict(end='"done"'), dict(end='("done" 1)'), dict(end='("failed")'), dict(end='("failed" 1)'), dict(end='("going")'),
                      dict(end="true"), dict(end="()"), dict(shown="(1)"), dict(shown='"a"'), dict(shown="nothing"), dict(frames="(())"), dict(frames="nothing"),
                      dict(frames="((0 0 () () nothing ()))"), dict(memory="()"), dict(memory="5"), dict(memory=written(memory_begun(0, 4)[:8])),
                      dict(memory=written((0, 3, (("free",),) * 3, 0, 0, 3, None, 0, ()))), dict(memory=written(memory_begun(0, 4)).replace("(0 4", "(false 4")),
                      dict(frames="((0 0 () () nothing ()))", end="nothing", memory=written((*memory_begun(0, 4)[:3], 1, *memory_begun(0, 4)[4:]))),
                      dict(frames="((true 0 () () nothing ()))", end="nothing"), dict(frames='((0 0 (("@" 0)) () nothing ()))', end="nothing")):
            self.assertEqual(told(mill_read, image_with(**parts)), raised("Unfit"), parts)
        self.assertEqual(mill_read(image_with(frames="((0 0 () () nothing ()))", end="nothing"))[3], None)
        for row, wanted in (('("failed" "")', ("failed", "")), ('("failed" "array 2")', ("failed", "array 2"))):
            self.assertEqual(mill_read(image_with(end=row))[3], wanted)


class RandomTest(unittest.TestCase):
    def runs(self):
        chance = random.Random(22)
        for seed in range(40):
            for program in (compiled_program(seed), shaped_program(seed), grown_program(seed, 20), BUSY[seed % len(BUSY)]):
                limits = (chance.choice((8, 12, 20, 40)), chance.choice((4, 6, 9)), 5)
                schedule = tuple(chance.choice((0, 1, 2, 5)) for _ in range(3))
                yield program, limits, schedule, len(states_until(program, limits, 60)) - 1

    def test_what_is_read_is_the_mill(self):
        for program, limits, schedule, most in self.runs():
            for at, mill in enumerate(mills_along(program, limits, schedule, most)):
                text = image_of(mill)
                self.assertEqual(repr(mill_read(text)), repr(mill))
                self.assertEqual(text.split("\n")[1:5], [*map(written, mill)])
                if at % 10 == 0:
                    cut = text[:random.Random(at).randrange(len(text))]
                    self.assertEqual(told(mill_read, cut)[0].__name__, "BadText")

    def test_writings(self):
        chance = random.Random(23)
        counts = {True: 0, False: 0}
        for _ in range(20000):
            row = "".join(chance.choice('() "a10-(') for _ in range(chance.randrange(1, 9)))
            if chance.randrange(2):
                row = "(" + row + ")"
            wanted = is_writing(row)
            text = mended(["mill 1", row, "()", "()", "()", "", "close"])
            self.assertEqual(told(mill_read, text), raised("Unfit") if wanted else raised("BadText", line=2), row)
            counts[wanted] += 1
        self.assertGreater(min(counts.values()), 300, counts)

    def test_a_run_goes_on_from_its_image(self):
        for program, limits, schedule, most in self.runs():
            if not is_taken(program):
                continue
            mills = mills_along(program, limits, schedule, most)
            middle = len(mills) // 2
            mill = mill_read(image_of(mills[middle]))
            for at in range(middle, len(mills) - 1):
                mill = mill_read(image_of(mill_stepped(program, mill, limits, schedule[at % 3])))
                self.assertEqual(mill, mills[at + 1])
            self.assertEqual((mill[2], mill[3] or ("going",)), run_plain(program, limits, most))

    def test_begun(self):
        for limits in ((0, 4, 1), (2000, 500, 60)):
            mill = mill_begun(main("halt", 30), limits)
            self.assertEqual(mill_read(image_of(mill)), mill)
        mill = mills_along(compiled_text("let a = many(900, 5); let b = [a, a]; b = 0;"), (2000, 500, 1), (7,), 30)[8]
        self.assertEqual(mill_read(image_of(mill)), mill)


if __name__ == "__main__":
    unittest.main()
