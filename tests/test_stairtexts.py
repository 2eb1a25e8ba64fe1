import copy
import itertools
import unittest
from fractions import Fraction

from hourstairs.errors import HourError, NoText
from hourstairs.fractions import fraction_text
from hourstairs.joining import then
from hourstairs.stairs import is_stair, lean
from hourstairs.stairtexts import read_stair, stair_text
from plain import m, row, some_rows

TEXTS = ["5 3 8; 9 8 9", "5 5 8; 9 11 11", "5 0 5", "0 0 0", "0 4 4", "0 4 4; 5 6 8", "7/2 7/2 9/2", "1/2 0 1/2",
         "0 3 3; 7/2 4 4", "5 9 9; 7 9 10; 8 10 12", "1/2 1/2 1/2; 2/3 2/3 5/6",
         "999999999999 0 999999999999", "1/999999999999 1 999999999999/999999999998; 2 2 2"]

NOT_RIGHT = ["5 5 8; 5 8 8", "5 5 8; 4 8 9", "0 3 4", "0 0 0; 0 0 0", "5 9 8", "5 5 8; 9 7 9", "5 5 8; 9 4 9", "5 0 4",
             "5 5 8; 9 8 17/2"]
NOT_LEAN = ["5 3 8; 9 8 12", "0 4 4; 5 4 8", "5 9 9; 7 9 9", "5 0 5; 9 5 9", "3/2 0 9/4; 2 9/4 3"]
BLANKS = [" 5 3 8; 9 8 9", "5 3 8; 9 8 9 ", "5  3 8; 9 8 9", "5 3  8; 9 8 9", "5 3 8;  9 8 9", "5 3 8 ; 9 8 9",
          "5 3 8;9 8 9", "53 8; 9 8 9", "5 3 8; 98 9", "5 3 8 9 8 9", "5\t3 8; 9 8 9", "5 3 8;\t9 8 9", "5\u00a03 8",
          "5 3 8;\n9 8 9", "5\n3\n8", "5,3,8", "5 3 8, 9 8 9", "5 3 8: 9 8 9"]
LINE_FEEDS = ["5 3 8\n", "5 3 8; 9 8 9\n", "\n5 3 8", "never\n", "\nnever", "\n", "5 3 8; \n9 8 9", "5 3 8\n; 9 8 9"]
SEMICOLONS = ["5 3 8;", "5 3 8; ", "; 5 3 8", ";5 3 8", ";", "; ", "5 3 8; ; 9 8 9", "5 3 8;; 9 8 9", "5; 3; 8",
              "5 3 8; 9 8 9; ", "5 3 8; 9 8 9;"]
NEVERS = ["Never", "NEVER", "never ", " never", "nevers", "neve", "never; never", "never; 5 3 8", "5 3 8; never",
          "()", "None", "none"]
NUMBERS = ["5", "5 3", "5 8", "5 3 8 9", "5 5 5 5", "5 3 8; 9 8", "5 3 8; 9 8 9 9", "5 3 8; 9", "5 3 8; 9 8 9; 10"]
MOMENTS = ["05 3 8", "5 03 8", "5 3 08", "5/1 3 8", "5 3 8/1", "10/2 3 8", "5 6/2 8", "5 -3 8", "+5 3 8", "5 3.0 8",
           "5 3 8.", "5 3 1e1", "5 3 x", "a b c", "5 3 8/", "5 /3 8", "5 3 7/0", "5 0/2 8", "5 3 \u0668", "5 3 1_0",
           "5 3 16/2", "5 3 8; 9 8 09", "5 3 8; 9 8 18/2"]
OTHERS = ["", " ", "  ", "~", "never" * 1000 + "xx", " " * 5002, "; " * 2501, "5 3 8; " * 714 + "9 ", "5" * 5002,
          "5 3 " + "0" * 4998]
NO_TEXTS = NOT_RIGHT + NOT_LEAN + BLANKS + LINE_FEEDS + SEMICOLONS + NEVERS + NUMBERS + MOMENTS + OTHERS
NOT_EVEN_TEXTS = [None, True, False, 0, 5, (), row("5 3 8"), [], ["5 3 8"], ("5 3 8",), b"5 3 8", b"never", b"", {},
                  {"never": ()}, {"never"}, object(), str, len, range(3), NoText("never"), 10 ** 5000]


class Texts(unittest.TestCase):
    def test_there_and_back(self):
        for text in TEXTS:
            self.assertEqual(stair_text(row(text)), text)
            self.assert_read(text, row(text))

    def assert_read(self, text, stair):
        told = read_stair(text)
        self.assertTrue(told == stair, text[:80])
        self.assertIs(is_stair(told), True)

    def test_never(self):
        self.assertEqual(stair_text(()), "never")
        self.assertEqual(read_stair("never"), ())
        self.assertIs(type(read_stair("never")), tuple)

    def test_some_stairs(self):
        texts = set()
        stairs = {lean(pieces) for pieces in some_rows()}
        for stair in stairs:
            text = stair_text(stair)
            plain = "; ".join(" ".join(str(Fraction(*part)) for part in piece) for piece in stair)
            self.assertEqual(text, plain or "never")
            self.assert_read(text, stair)
            texts.add(text)
        self.assertEqual(len(texts), len(stairs))

    def test_some_rows_that_are_not_lean(self):
        refused = 0
        for pieces in some_rows():
            if lean(pieces) != pieces:
                refused += 1
                self.assertRaises(NoText, read_stair, stair_text(pieces))
        self.assertGreater(refused, 100)

    def test_no_texts(self):
        for text in NO_TEXTS:
            with self.assertRaises(NoText, msg=repr(text[:80])):
                read_stair(text)

    def test_not_even_texts(self):
        for at, thing in enumerate(NOT_EVEN_TEXTS):
            with self.assertRaises(NoText, msg=at):
                read_stair(thing)

    def test_refused_under_hour_error(self):
        self.assertRaises(HourError, read_stair, "5 3 8; 9 8 12")

    def test_each_sign_left_out_put_in_or_changed(self):
        """What is read is told as the very text that was read, whatever was done to it."""
        read = 0
        for text in ["5 3 8; 9 8 9", "7/2 7/2 9/2; 9 11 23/2", "never"]:
            for at, sign in itertools.product(range(len(text) + 1), ["", " ", ";", "/", "0", "7", "\n", "n", "; "]):
                for other in (text[:at] + sign + text[at:], text[:at] + sign + text[at + 1:]):
                    try:
                        stair = read_stair(other)
                    except NoText:
                        continue
                    read += 1
                    self.assertIs(is_stair(stair), True, other)
                    self.assertEqual(stair_text(stair), other)
        self.assertGreater(read, 50)


class Long(unittest.TestCase):
    def test_longest_texts(self):
        for stair in [((m(1), m(1), (10 ** 4997, 1)),), ((m(1), m(1), m(1)), (m(2), m(2), (10 ** 4990, 1)))]:
            text = stair_text(stair)
            self.assertEqual(len(text), 5002)
            self.assertTrue(read_stair(text) == stair)

    def test_told_stairs_of_many_figures(self):
        stair = (((999999999989, 999999999961), (1, 999999999937), (999999999899, 999999999847)),)
        stair = (stair[0][:2] + (m(Fraction(*stair[0][0]) + Fraction(*stair[0][2])),),)
        told = stair
        for at in range(9):
            # Shifted, so that something is left of it behind each step.
            by = Fraction(*told[0][1])
            behind = tuple(tuple(m(Fraction(*part) + by) for part in piece) for piece in stair)
            told = then(told, behind)
            self.assertIs(is_stair(told), True)
            self.assertNotEqual(told, ())
            text = stair_text(told)
            parts = [fraction_text(part) for piece in told for part in piece]
            self.assertTrue(text.replace(";", "").split(" ") == parts)
            self.assertTrue(read_stair(text) == told)
        self.assertGreater(len(text), 5002)


class AsItWas(unittest.TestCase):
    def test_what_is_handed_in_stays(self):
        for thing in [["5 3 8"], {"never": [()]}, [5, [3], 8], row("5 3 8; 9 8 9"), ()]:
            before = copy.deepcopy(thing)
            self.assertRaises(NoText, read_stair, thing)
            if isinstance(thing, tuple):
                stair_text(thing)
            self.assertEqual(thing, before)

    def test_asked_again(self):
        for text in TEXTS:
            self.assertEqual(read_stair(text), read_stair(text))
            self.assertEqual(stair_text(row(text)), stair_text(row(text)))


if __name__ == "__main__":
    unittest.main()
