import copy
import itertools
import signal
import unittest
from fractions import Fraction
from math import gcd

from hourstairs.errors import HourError, NoText
from hourstairs.fractions import (
    fraction, fraction_text, is_below, is_fraction, less, over, plus, read_fraction, times)

SOME = [(0, 1), (1, 1), (7, 1), (1, 2), (7, 2), (2, 3), (5, 6), (9, 10), (12, 1), (35, 12),
        (999999999999, 999999999998), (999999999998, 999999999999), (1, 999999999999), (999999999999, 1)]


def worth(pair):
    return Fraction(pair[0], pair[1])


class AtOnce(unittest.TestCase):
    """Ends a test that counts number by number, which would go on for ever."""

    def setUp(self):
        def too_long(number, frame):
            raise AssertionError("not told at once")
        self.before = signal.signal(signal.SIGALRM, too_long)
        signal.alarm(60)

    def tearDown(self):
        signal.alarm(0)
        signal.signal(signal.SIGALRM, self.before)

    def assert_told(self, told, value):
        self.assertIs(type(told), tuple)
        self.assertEqual([type(part) for part in told], [int, int])
        self.assertEqual(told, (value.numerator, value.denominator))


class IsFraction(AtOnce):
    def test_fractions(self):
        for pair in SOME:
            self.assertIs(is_fraction(pair), True, pair)

    def test_huge_fractions(self):
        self.assertIs(is_fraction((10 ** 3000, 10 ** 3000 + 1)), True)
        self.assertIs(is_fraction((2 * 10 ** 3000, 10 ** 3000 + 2)), False)

    def test_not_in_lowest_terms(self):
        for pair in [(2, 4), (0, 2), (0, 3), (7, 7), (6, 3), (999999999999, 3), (10 ** 12, 10 ** 11)]:
            self.assertIs(is_fraction(pair), False, pair)

    def test_below_nought_and_over_nought(self):
        for pair in [(-1, 2), (1, -2), (-1, -2), (-7, 1), (0, -1), (1, 0), (0, 0), (7, 0), (-1, 0)]:
            self.assertIs(is_fraction(pair), False, pair)

    def test_truths_are_no_whole_numbers(self):
        for pair in [(True, 1), (1, True), (False, 1), (True, True), (True, 2), (3, True), (1, False)]:
            self.assertIs(is_fraction(pair), False, pair)

    def test_other_lengths(self):
        for thing in [(), (1,), (7, 2, 1), (1, 1, 1), (1, 2, 3, 4), ((7, 2),), ((7, 2), (7, 2))]:
            self.assertIs(is_fraction(thing), False, thing)

    def test_other_things(self):
        things = [[7, 2], [], None, True, False, 7, 0, "7/2", "", "72", b"72", b"", {7: 2}, {}, {7, 2},
                  {7: 1, 2: 1}, ("7", "2"), ("7", 2), (7, "2"), (None, 1), (7, None), ([7], 2), ((7,), 2),
                  ((), ()), (7, [2]), range(1, 3), object(), int, len, frozenset([1, 2]), NoText("x")]
        for thing in things:
            self.assertIs(is_fraction(thing), False, thing)


class Made(AtOnce):
    def test_small_ones(self):
        for n in range(40):
            for d in range(1, 40):
                self.assert_told(fraction(n, d), Fraction(n, d))

    def test_nought(self):
        for d in (1, 2, 999999999999, 10 ** 4000):
            self.assert_told(fraction(0, d), Fraction(0))

    def test_twelve_figures(self):
        self.assertEqual(fraction(999999999998, 999999999996), (499999999999, 499999999998))
        self.assertEqual(fraction(999999999989, 999999999988), (999999999989, 999999999988))
        self.assertEqual(fraction(123456789012, 3), (41152263004, 1))

    def test_far_more(self):
        n, d, common = 10 ** 1500 + 1, 10 ** 1500, 3 ** 2000
        self.assertEqual(fraction(n * common, d * common), (n, d))


class Reckoning(AtOnce):
    def test_plus_times(self):
        for one, other in itertools.product(SOME, SOME):
            self.assert_told(plus(one, other), worth(one) + worth(other))
            self.assert_told(times(one, other), worth(one) * worth(other))

    def test_less(self):
        for one, other in itertools.product(SOME, SOME):
            if worth(one) >= worth(other):
                self.assert_told(less(one, other), worth(one) - worth(other))

    def test_over(self):
        for one, other in itertools.product(SOME, SOME):
            if worth(other) > 0:
                self.assert_told(over(one, other), worth(one) / worth(other))

    def test_edges(self):
        self.assertEqual(plus((1, 6), (1, 3)), (1, 2))
        self.assertEqual(plus((1, 2), (1, 2)), (1, 1))
        self.assertEqual(less((7, 2), (7, 2)), (0, 1))
        self.assertEqual(less((7, 2), (0, 1)), (7, 2))
        self.assertEqual(times((7, 2), (0, 1)), (0, 1))
        self.assertEqual(times((0, 1), (7, 2)), (0, 1))
        self.assertEqual(times((2, 3), (3, 2)), (1, 1))
        self.assertEqual(over((0, 1), (7, 2)), (0, 1))
        self.assertEqual(over((7, 2), (7, 2)), (1, 1))
        self.assertEqual(over((1, 2), (1, 4)), (2, 1))

    def test_huge(self):
        one, other = (10 ** 2500, 10 ** 2500 + 1), (10 ** 2500 + 2, 10 ** 2500 + 1)
        self.assertEqual(plus(one, other), (2, 1))
        self.assertEqual(less(other, one), (2, 10 ** 2500 + 1))
        self.assertEqual(times(one, (10 ** 2500 + 1, 10 ** 2500)), (1, 1))
        self.assertEqual(over(one, one), (1, 1))


class Below(AtOnce):
    def test_below(self):
        for one, other in itertools.product(SOME, SOME):
            self.assertIs(is_below(one, other), worth(one) < worth(other))

    def test_near_each_other(self):
        near, nearer = (999999999997, 999999999998), (999999999998, 999999999999)
        self.assertIs(is_below(near, nearer), True)
        self.assertIs(is_below(nearer, near), False)
        self.assertIs(is_below(near, near), False)
        huge = 10 ** 3000
        self.assertIs(is_below((huge, huge + 1), (huge + 1, huge + 2)), True)
        self.assertIs(is_below((huge + 1, huge + 2), (huge, huge + 1)), False)


TEXTS = [("0", (0, 1)), ("1", (1, 1)), ("7", (7, 1)), ("10", (10, 1)), ("100", (100, 1)), ("7/2", (7, 2)),
         ("1/2", (1, 2)), ("2/3", (2, 3)), ("1/10", (1, 10)), ("10/9", (10, 9)), ("101/100", (101, 100)),
         ("999999999999", (999999999999, 1)), ("1/999999999999", (1, 999999999999)),
         ("999999999999/999999999998", (999999999999, 999999999998)),
         ("1" + "0" * 62, (10 ** 62, 1)), ("1" + "0" * 63, (10 ** 63, 1)), ("9" * 63, (10 ** 63 - 1, 1)),
         ("1" + "0" * 64, (10 ** 64, 1)), ("9" * 64, (10 ** 64 - 1, 1)), ("1" + "0" * 63 + "7", (10 ** 64 + 7, 1)),
         ("1" + "0" * 127 + "7", (10 ** 128 + 7, 1)), ("9" * 128, (10 ** 128 - 1, 1)),
         ("1" + "0" * 5001, (10 ** 5001, 1)), ("9" * 5002, (10 ** 5002 - 1, 1)),
         ("1/1" + "0" * 4999, (1, 10 ** 4999)), ("9" * 2500 + "/1" + "0" * 2500, (10 ** 2500 - 1, 10 ** 2500))]

NO_TEXTS = [
    "", " ", "00", "01", "007", "07/2", "7/02", "00/1", "7/1", "0/1", "0/2", "0/3", "2/4", "6/3", "7/7", "7/0", "0/0",
    "1/0", "/", "/2", "7/", "0/", "//", "7//2", "7/2/", "/7/2", "7/2/3", "7/2/1", "+7", "-7", "+0", "-0", "7/-2",
    "7/+2", "-7/2", "+7/2", " 7", "7 ", " 7/2", "7/2 ", "7 /2", "7/ 2", "7 / 2", "7 2", "\t7", "7\t", "7.0", "7.",
    ".5", "3.5", "7/2.0", "1_0", "1_000", "7/1_0", "_7", "7_", "7\n", "\n7", "7/2\n", "7\n/2", "7/\n2", "\n", "7\r",
    "7\x00", "7\x0b", "7\x0c", "\u00a07", "1e3", "7e0", "0x7", "0b1", "0o7", "x", "a/b", "7a", "7/2a", "None", "True",
    "(7, 2)", "7,2", "7:2", "7\\2", "~", "\u0663", "7/\u0662", "\u00b2", "7/\u00b2", "1\u0662", "\uff17", "\u2460",
    "\u00bd", "7\u20442", "\ud800", "7" + "\n" * 5001, "0" * 5002, "0" * 5001 + "7", " " * 5002, "7" * 5001 + " ",
    " " + "7" * 5001, "7" * 5001 + "/", "7" * 5000 + "/1", "/" + "7" * 5001, "7" * 2500 + "/" + "7" * 2501 + "a",
    "2" * 2500 + "/" + "4" * 2500, "7" * 2500 + "/" + "7" * 2500, "7" * 2500 + "/0" + "9" * 2500]

NOT_EVEN_TEXTS = [None, True, False, 0, 7, (7, 2), (), ("7",), ["7"], ["7", "/", "2"], [], {}, {"7": 2}, b"7", b"7/2",
                  b"", {"7"}, frozenset(), object(), str, int, len, range(3), 10 ** 5000, NoText("7")]


class Texts(AtOnce):
    def test_there_and_back(self):
        for text, pair in TEXTS:
            self.assertTrue(fraction_text(pair) == text, text[:80])
            told = read_fraction(text)
            self.assertTrue(told == pair, text[:80])
            self.assertEqual([type(told), type(told[0]), type(told[1])], [tuple, int, int])
            self.assertIs(is_fraction(told), True)

    def test_all_small_ones(self):
        for n in range(60):
            for d in range(1, 60):
                text = str(n) if d == 1 else f"{n}/{d}"
                if gcd(n, d) == 1:
                    self.assertEqual(fraction_text((n, d)), text)
                    self.assertEqual(read_fraction(text), (n, d))
                elif d > 1:
                    self.assertRaises(NoText, read_fraction, text)

    def test_longer_than_any_text_that_is_handed_in(self):
        huge = times((10 ** 5001, 1), (10 ** 5001 + 7, 1))
        text = fraction_text(huge)
        self.assertTrue(text == "1" + "0" * 5000 + "7" + "0" * 5001)
        self.assertTrue(read_fraction(text) == huge)

    def test_short_texts_of_all_signs(self):
        signs = "0127/+-. _\n"
        for many in range(5):
            for text in map("".join, itertools.product(signs, repeat=many)):
                self.assertEqual(self.read_or_none(text), self.plainly(text), repr(text))

    def read_or_none(self, text):
        try:
            return read_fraction(text)
        except NoText:
            return None

    def plainly(self, text):
        parts = text.split("/")
        for part in parts:
            if not part or part.strip("0127") or part[0] == "0" and part != "0":
                return None
        if len(parts) == 1:
            return (int(text), 1)
        if len(parts) > 2 or int(parts[1]) < 2 or gcd(int(parts[0]), int(parts[1])) != 1:
            return None
        return (int(parts[0]), int(parts[1]))

    def test_no_texts(self):
        for text in NO_TEXTS:
            with self.assertRaises(NoText, msg=repr(text[:80])):
                read_fraction(text)

    def test_not_even_texts(self):
        for at, thing in enumerate(NOT_EVEN_TEXTS):
            with self.assertRaises(NoText, msg=at):
                read_fraction(thing)

    def test_refused_under_hour_error(self):
        self.assertRaises(HourError, read_fraction, "2/4")
        self.assertRaises(ValueError, read_fraction, "2/4")


class AsItWas(AtOnce):
    def test_what_is_handed_in_stays(self):
        for thing in [[7, 2], ([7], 2), {7: 2}, (7, 2), {"a": [1]}, ([1, 2], [3])]:
            before = copy.deepcopy(thing)
            is_fraction(thing)
            self.assertRaises(NoText, read_fraction, thing)
            self.assertEqual(thing, before)

    def test_asked_again(self):
        def ask():
            told = [(is_fraction(one), fraction_text(one), read_fraction(fraction_text(one))) for one in SOME]
            for one, other in itertools.product(SOME, SOME):
                told.append((plus(one, other), times(one, other), is_below(one, other)))
            return told
        self.assertEqual(ask(), ask())


if __name__ == "__main__":
    unittest.main()
