"""Section 5 of the document: signs.py."""

import unittest

from gathermill.errors import BadText
from gathermill.signs import signs_of
from tests.examples_of_document import check_file

KEYS = ("let", "fn", "if", "else", "while", "break", "return", "show", "fail", "try", "catch", "true", "false",
        "nothing", "and", "or", "not", "many", "len")


class SignsTest(unittest.TestCase):
    def check_bad(self, text, line):
        with self.assertRaises(BadText) as caught:
            signs_of(text)
        self.assertEqual(caught.exception.line, line, text)

    def test_examples(self):
        check_file(self, "05")

    def test_nothing(self):
        for text in ("", " ", "\n", "#", "# a", "#\n", "  \n # a # b !\n\n", "# ! 007 \""):
            self.assertEqual(signs_of(text), ())
        self.assertEqual(signs_of(text="a"), (("name", "a", 1),))

    def test_keys_and_names(self):
        for key in KEYS:
            self.assertEqual(signs_of(key), (("key", key, 1),))
            self.assertEqual(signs_of(key + "s"), (("name", key + "s", 1),))
        self.assertEqual(signs_of("abcdefghijkl z"), (("name", "abcdefghijkl", 1), ("name", "z", 1)))
        self.check_bad("abcdefghijklm", 1)
        self.check_bad("a\n\n  abcdefghijklmnop", 3)

    def test_figures(self):
        self.assertEqual(signs_of("0 10 1000000000"), (("number", 0, 1), ("number", 10, 1), ("number", 10 ** 9, 1)))
        for text in ("00", "01", "007", "1000000001", "9999999999", "10000000000", "1" * 5000, "0" * 5000):
            self.check_bad(text, 1)
        self.assertEqual(signs_of("a0 1b2"), (
            ("name", "a", 1), ("number", 0, 1), ("number", 1, 1), ("name", "b", 1), ("number", 2, 1)))

    def test_words(self):
        self.assertEqual(signs_of('"a""abcdefghijkl" "let"'),
                         (("word", "a", 1), ("word", "abcdefghijkl", 1), ("word", "let", 1)))
        for text in ('"', '""', '"a', '"abcdefghijklm"', '"a b"', '"A"', '"a1"', '"a\n"', '"a#"', '"" a'):
            self.check_bad(text, 1)
        self.check_bad('"red" \n\n "red', 3)

    def test_marks(self):
        marks = "+ - * / ~ < = ( ) { } [ ] , ; <= == !="
        self.assertEqual(signs_of(marks), tuple(("mark", mark, 1) for mark in marks.split()))
        self.assertEqual([sign[1] for sign in signs_of("<==>"[:3] + "===!==<<=")],
                         ["<=", "==", "==", "!=", "=", "<", "<="])
        self.assertEqual([sign[1] for sign in signs_of("< = = =")], ["<", "=", "=", "="])

    def test_the_mark_alone(self):
        for text in ("!", "! =", "!a", "a!", "!\n=", "!!="):
            self.check_bad(text, 1)

    def test_what_begins_no_sign(self):
        for own in "!$&'.:>?@ABCXYZ^_`|\\" + chr(37):
            self.check_bad("a\n" + own, 2)

    def test_lines(self):
        self.assertEqual(signs_of("\na # b\n\nc\n"), (("name", "a", 2), ("name", "c", 4)))
        self.check_bad("a\nb # \"\n!", 3)

    def test_the_first_one_decides(self):
        self.check_bad("a\n!\n007", 2)
        self.check_bad("007 !", 1)

    def test_a_remark_ends_no_sign_apart(self):
        self.assertEqual(signs_of("ab#c\nd"), (("name", "ab", 1), ("name", "d", 2)))

    def test_blanks_change_nothing(self):
        one = [sign[:2] for sign in signs_of("let a=[1,-2];a[0]=a[1]*(3-a[0])!=b<=c;")]
        other = [sign[:2] for sign in signs_of("let a\n = [ 1 , - 2 ] ; # x\n a [ 0 ] = a [ 1 ] * ( 3 - a[ 0]) != b <= c ;")]
        self.assertEqual(one, other)


if __name__ == "__main__":
    unittest.main()
