import copy
import itertools
import random
import unittest
from fractions import Fraction

from hourstairs.errors import HourError, Overtaken
from hourstairs.rides import is_rides, offer, set_out, stair_of
from hourstairs.stairs import coming, is_stair, lean
from plain import (
    NO_MOMENTS, m, m_or_none, moments_of, plain_coming, plain_offer, plain_overtaking, plain_set_out, ride_moments,
    rides_of, row, some_rides, some_rows)

RIDES = ["", "3 3 5 5", "3 3 3 3", "0 0 0 0", "0 9 0 9", "0 9 9 9", "0 9 30 9", "2 5 9 6", "7/2 9/2 7/2 14/3",
         "3 5 4 8; 3 5 4 8", "6 9 8 9; 0 2 3 3", "0 9 0 9; 0 9 30 9; 4 4 4 4",
         "1/999999999999 999999999999 999999999999/999999999998 999999999999"]
NO_RIDES = {
    "first is above last": ["5 3 6 6", "9/2 4 5 5", "1 0 2 2"],
    "come is below first": ["3 5 2 8", "3 5 5/2 8", "1 9 0 9", "3 3 2 2"],
    "comes is below last": ["3 5 4 4", "0 9 9 17/2", "0 5 0 0"],
    "first is last, and come not comes": ["3 3 4 5", "3 3 5 4", "0 0 0 1"],
}
NO_TUPLES = [None, True, False, 0, 5, "", "3 3 5 5", b"", [], {}, {(): ()}, set(), range(0), object(), len,
             list(row("3 3 5 5")), {row("3 3 5 5")[0]: 1}, iter(())]
OVERTAKING = ["3 5 4 8", "0 2 3 3; 4 5 6 6", "0 2 3 3; 2 2 2 2", "0 5 9 6", "0 5 0 10; 3 3 3 3", "0 5 0 10; 4 8 7 9",
              "0 5 5 10; 5 5 9 9", "0 9 9 18; 4 5 10 10", "0 0 0 0; 1 1 1 1", "1/2 1/2 1 1", "0 3 3 6; 3 6 5 8",
              "0 4 8 8; 2 4 9 7", "0 4 4 4; 4 8 8 8; 8 9 9 9; 9 9 9 9; 10 10 10 10", "0 1 2 2; 0 1 3 1"]
STEADY = {"": "", "0 9 0 9": "9 0 9", "0 0 4 4": "0 4 4", "0 2 3 3; 2 5 4 8": "2 3 3; 5 4 8",
          "2 5 4 8; 0 2 3 3": "2 3 3; 5 4 8", "0 5 5 10; 0 5 6 8": "5/3 5 20/3; 5 20/3 8",
          "0 9 9 9; 3 5 20 9": "9 9 9", "0 9 0 9; 4 4 4 4": "9 0 9", "0 5 5 8; 0 5 5 8": "5 5 8",
          "0 9 9 10; 0 5 20 12; 3 3 99 99": "9 9 10", "0 0 1 1; 0 5 3 8": "0 1 1; 5 3 8",
          "0 4 2 5; 4 8 9 9; 3 4 9 5": "4 2 5; 8 9 9"}


def some_lists():
    chance = random.Random(311)
    return [some_rides(chance, 4) for at in range(250)] + [some_rides(chance, 8) for at in range(60)]


def some_stairs():
    return [lean(pieces) for pieces in some_rows()[:150]]


class IsRides(unittest.TestCase):
    def test_rides(self):
        for text in RIDES:
            self.assertIs(is_rides(row(text)), True, text)

    def test_none(self):
        self.assertIs(is_rides(()), True)

    def test_each_condition_broken(self):
        for why, texts in NO_RIDES.items():
            for text in texts:
                self.assertIs(is_rides(row(text)), False, why + ": " + text)
                self.assertIs(is_rides(row("0 9 0 9; " + text)), False, why + ": " + text)
                self.assertIs(is_rides(row(text + "; 0 9 0 9")), False, why + ": " + text)

    def test_comes_may_be_below_come(self):
        self.assertIs(is_rides(row("3 5 9 6")), True)
        self.assertIs(is_rides(row("3 5 9 5")), True)

    def test_no_tuples(self):
        for thing in NO_TUPLES:
            self.assertIs(is_rides(thing), False, thing)

    def test_a_ride_alone_is_no_rides(self):
        self.assertIs(is_rides(row("3 5 4 8")[0]), False)

    def test_things_that_are_no_rides(self):
        ride = row("3 5 4 8")[0]
        for thing in [list(ride), ride[:3], ride + (m(9),), ride[:1], (), [], None, 5, "", "3 5 4 8", {}, True, m(5),
                      {moment: 1 for moment in ride}, (ride,), b"3548", "abcd", (3, 5, 4, 8)]:
            self.assertIs(is_rides((thing,)), False, thing)
            self.assertIs(is_rides((ride, thing)), False, thing)
            self.assertIs(is_rides((thing, ride)), False, thing)

    def test_things_that_are_no_moments(self):
        for thing, at in itertools.product(NO_MOMENTS, range(4)):
            ride = [m(5), m(5), m(5), m(5)]
            ride[at] = thing
            self.assertIs(is_rides((tuple(ride),)), False, thing)
            self.assertIs(is_rides((row("3 5 4 8")[0], tuple(ride))), False, thing)

    def test_truths_in_place_of_whole_numbers(self):
        for at, truth in itertools.product(range(4), [(True, 1), (1, True), (True, True)]):
            ride = [m(1), m(1), m(1), m(1)]
            self.assertIs(is_rides((tuple(ride),)), True)
            ride[at] = truth
            self.assertIs(is_rides((tuple(ride),)), False)
        self.assertIs(is_rides((((False, 1), m(1), m(1), m(1)),)), False)

    def test_those_that_the_other_tests_take(self):
        for rides in some_lists() + [rides_of(stair) for stair in some_stairs()]:
            self.assertIs(is_rides(rides), True, rides)


class Offer(unittest.TestCase):
    def assert_offers(self, text, *told):
        for t, value in told:
            self.assertEqual(offer(row(text), m(t)), m_or_none(value), (text, t))

    def test_first_last_between_and_outside(self):
        self.assert_offers("3 5 4 8", (0, None), ("29/10", None), (3, 4), (4, 6), ("9/2", 7), (5, 8), ("51/10", None))

    def test_on_one_that_falls(self):
        self.assert_offers("3 5 9 6", (3, 9), (4, "15/2"), (5, 6), (6, None))

    def test_of_one_moment(self):
        self.assert_offers("3 3 5 5", (2, None), (3, 5), (4, None))
        self.assert_offers("0 0 0 0", (0, 0), ("1/9", None))

    def test_where_several_have_it(self):
        self.assert_offers("0 4 4 12; 2 6 7 7; 3 3 5 5", (0, 4), (1, 6), (2, 7), ("5/2", 7), (3, 5), (4, 7), (6, 7))
        self.assert_offers("0 2 9 9; 2 4 5 5", (2, 5), (1, 9))
        self.assert_offers("2 4 9 9; 0 2 5 5", (2, 5), (3, 9))
        self.assert_offers("3 5 4 8; 3 5 4 8", (4, 6))

    def test_none_has_it(self):
        self.assert_offers("", (0, None), (5, None))
        self.assert_offers("0 2 9 9; 4 5 9 9", (3, None), (6, None))

    def test_some_rides(self):
        for rides in some_lists():
            for t in ride_moments(rides):
                self.assertEqual(offer(rides, m(t)), m_or_none(plain_offer(rides, t)), (rides, t))

    def test_twelve_figures(self):
        rides = row("1/999999999999 999999999999/7 999999999998/999999999997 999999999989/3; 0 5 999999999999/4 7")
        for t in ride_moments(rides):
            self.assertEqual(offer(rides, m(t)), m_or_none(plain_offer(rides, t)))


class SetOut(unittest.TestCase):
    def assert_out(self, text, wait, *told):
        for t, out, come in told:
            pair = None if out is None else (m(out), m(come))
            self.assertEqual(set_out(row(text), wait, m(t)), pair, (text, wait, t))

    def test_at_once(self):
        for wait in (True, False):
            self.assert_out("3 5 4 8", wait, (3, 3, 4), (4, 4, 6), (5, 5, 8))
            self.assert_out("3 3 5 5", wait, (3, 3, 5))

    def test_ahead_of_all(self):
        self.assert_out("3 5 4 8", True, (0, 3, 4), ("5/2", 3, 4))
        self.assert_out("3 5 4 8", False, (0, None, 0), ("5/2", None, 0))

    def test_behind_all(self):
        for wait in (True, False):
            self.assert_out("3 5 4 8", wait, ("51/10", None, 0), (9, None, 0))
            self.assert_out("", wait, (0, None, 0), (9, None, 0))

    def test_later_where_less_is_offered(self):
        self.assert_out("0 5 9 9; 3 3 6 6", True, (0, 3, 6), (3, 3, 6), (4, 4, 9), (5, 5, 9))
        self.assert_out("0 5 9 9; 3 3 6 6", False, (0, 0, 9), (3, 3, 6), (4, 4, 9))
        self.assert_out("0 5 5 10; 4 6 7 8", True, (0, 0, 5), (2, 2, 7), ("5/2", 4, 7), (5, 5, "15/2"), (6, 6, 8))

    def test_at_the_first_moment_that_offers_the_least(self):
        self.assert_out("5 5 9 9; 3 3 9 9; 4 4 9 9", True, (0, 3, 9), (3, 3, 9), ("7/2", 4, 9), (5, 5, 9))
        self.assert_out("2 8 9 9", True, (0, 2, 9), (2, 2, 9), (4, 4, 9), (8, 8, 9))
        self.assert_out("0 4 9 7; 5 8 7 8", True, (0, 4, 7), (4, 4, 7), ("9/2", 5, 7))
        self.assert_out("5 8 7 8; 0 4 9 7", True, (0, 4, 7))
        self.assert_out("0 4 8 8; 2 4 9 8; 1 9 12 9", True, (0, 0, 8), (3, 3, 8), (5, 9, 9))

    def test_on_one_that_falls(self):
        self.assert_out("3 5 9 6", True, (0, 5, 6), (3, 5, 6), (4, 5, 6), (5, 5, 6), (6, None, 0))
        self.assert_out("3 5 9 6", False, (0, None, 0), (3, 3, 9), (4, 4, "15/2"), (5, 5, 6), (6, None, 0))

    def test_where_one_ends_and_another_begins(self):
        self.assert_out("0 3 4 7; 3 6 6 8", True, (0, 0, 4), (1, 1, 5), ("5/2", 3, 6), (3, 3, 6), (4, 4, "20/3"))
        self.assert_out("0 3 4 7; 3 6 6 8", False, (3, 3, 6), ("5/2", "5/2", "13/2"))
        self.assert_out("0 3 4 5; 3 6 6 8", True, (3, 3, 5), (4, 4, "20/3"))
        self.assert_out("0 3 4 5; 3 6 6 8", False, (3, 3, 5))

    def test_in_gaps(self):
        self.assert_out("0 2 3 3; 4 5 6 6", True, (2, 2, 3), (3, 4, 6), (4, 4, 6))
        self.assert_out("0 2 3 3; 4 5 6 6", False, (2, 2, 3), (3, None, 0), (4, 4, 6))

    def test_some_rides(self):
        for rides in some_lists():
            for t in ride_moments(rides):
                told = plain_set_out(rides, t)
                self.assertEqual(set_out(rides, True, m(t)), told and (m(told[0]), m(told[1])), (rides, t))
                come = plain_offer(rides, t)
                self.assertEqual(set_out(rides, False, m(t)), None if come is None else (m(t), m(come)), (rides, t))


class StairWithWaiting(unittest.TestCase):
    def assert_stairs(self, text, told):
        self.assertEqual(stair_of(row(text), True), row(told), text)

    def test_none(self):
        self.assertEqual(stair_of((), True), ())

    def test_one_that_rises(self):
        self.assert_stairs("3 5 4 8", "3 4 4; 5 4 8")
        self.assert_stairs("0 5 4 8", "5 4 8")
        self.assert_stairs("0 5 0 5", "5 0 5")

    def test_one_that_is_even_or_falls(self):
        self.assert_stairs("3 5 8 8", "5 8 8")
        self.assert_stairs("3 5 9 6", "5 6 6")
        self.assert_stairs("0 5 9 5", "5 5 5")

    def test_of_one_moment(self):
        self.assert_stairs("3 3 5 5", "3 5 5")
        self.assert_stairs("0 0 5 5", "0 5 5")
        self.assert_stairs("0 0 5 5; 1 1 6 6", "0 5 5; 1 6 6")

    def test_crossing(self):
        self.assert_stairs("0 5 5 10; 0 5 6 8", "5/3 5 20/3; 5 20/3 8")
        self.assert_stairs("0 4 4 8; 0 4 9 5", "1 4 5; 4 5 5")

    def test_one_above_another(self):
        self.assert_stairs("0 5 5 8; 1 4 9 9", "5 5 8")
        self.assert_stairs("1 4 9 9; 0 5 5 8; 2 2 8 8", "5 5 8")
        self.assert_stairs("0 5 9 9; 3 3 6 6", "3 6 6; 5 9 9")

    def test_gaps(self):
        self.assert_stairs("0 2 3 3; 4 5 6 8", "2 3 3; 4 6 6; 5 6 8")
        self.assert_stairs("7 8 9 9; 1 2 3 4", "1 3 3; 2 3 4; 8 9 9")

    def test_a_lesser_one_later(self):
        self.assert_stairs("0 5 0 10; 3 3 3 3", "3/2 0 3; 3 3 3; 5 6 10")

    def test_alike(self):
        self.assert_stairs("3 5 4 8; 3 5 4 8; 3 5 4 8", "3 4 4; 5 4 8")

    def test_some_rides(self):
        for rides in some_lists():
            stair = stair_of(rides, True)
            self.assertIs(is_stair(stair), True, rides)
            for t in sorted(set(ride_moments(rides) + moments_of(stair))):
                told = plain_set_out(rides, t)
                self.assertEqual(plain_coming(stair, t), told and told[1], (rides, t))

    def test_forty_rides(self):
        rides = some_rides(random.Random(3), 1)
        rides = tuple(tuple(m(Fraction(*part) + day * 20) for part in ride) for day in range(40) for ride in rides)
        self.assertEqual(len(rides), 40)
        stair = stair_of(rides, True)
        self.assertIs(is_stair(stair), True)
        for t in range(0, 820, 7):
            told = plain_set_out(rides, Fraction(t, 1))
            self.assertEqual(coming(stair, m(t)), told and m(told[1]))


class StairWithoutWaiting(unittest.TestCase):
    def test_steady(self):
        for text, told in STEADY.items():
            self.assertEqual(stair_of(row(text), False), row(told), text)
            self.assertEqual(stair_of(row(text), True), row(told), text)

    def assert_overtaken(self, rides):
        with self.assertRaises(Overtaken, msg=rides) as caught:
            stair_of(rides, False)
        first, second = caught.exception.first, caught.exception.second
        told = [plain_offer(rides, Fraction(*moment)) for moment in (first, second)]
        self.assertEqual([m(Fraction(*first)), m(Fraction(*second))], [first, second])
        self.assertLess(Fraction(*first), Fraction(*second))
        self.assertIsNotNone(told[1])
        self.assertTrue(told[0] is None or told[0] > told[1], (rides, first, second))
        return first, second

    def test_overtaking(self):
        for text in OVERTAKING:
            told = self.assert_overtaken(row(text))
            self.assertEqual(told, self.assert_overtaken(row(text)))

    def test_refused_under_hour_error(self):
        self.assertRaises(HourError, stair_of, row("3 5 4 8"), False)

    def test_of_one_moment_and_none(self):
        self.assertEqual(stair_of((), False), ())
        self.assertEqual(stair_of(row("0 0 4 4"), False), row("0 4 4"))
        self.assert_overtaken(row("1 1 4 4"))

    def test_a_moment_alone_between(self):
        self.assert_overtaken(row("0 2 5 5; 2 4 6 6; 3 3 11/2 11/2"))
        self.assert_overtaken(row("0 2 5 7; 2 4 6 8"))
        self.assertEqual(stair_of(row("0 2 5 6; 2 4 6 8; 3 3 7 7"), False), row("2 5 6; 4 6 8"))

    def test_a_gap_of_hardly_any_width(self):
        self.assert_overtaken(row("0 1 3 3; 1000001/1000000 2 3 3"))
        self.assert_overtaken(row("1/999999999999 2 3 3"))
        self.assertEqual(stair_of(row("0 1 3 3; 1 2 3 3"), False), row("2 3 3"))

    def test_a_fall_of_hardly_any_height(self):
        self.assert_overtaken(row("0 1 3 2999999/1000000"))
        self.assert_overtaken(row("0 1 3 4; 1 2 3999999/1000000 5"))
        self.assertEqual(stair_of(row("0 1 3 4; 1 2 4 5"), False), row("2 3 5"))

    def test_some_rides(self):
        refused = 0
        for rides in some_lists():
            if plain_overtaking(rides):
                refused += 1
                self.assertEqual(self.assert_overtaken(rides), self.assert_overtaken(rides))
            else:
                self.assertEqual(stair_of(rides, False), stair_of(rides, True))
        self.assertGreater(refused, 100)

    def test_some_rides_over_an_even_one(self):
        """With one that has all moments there are gaps no more, and often nobody is overtaken."""
        steady = 0
        for rides in some_lists():
            for text in ("0 20 0 20", "0 20 11 20", "0 20 20 20"):
                both = rides + row(text)
                if plain_overtaking(both):
                    self.assert_overtaken(both)
                else:
                    steady += 1
                    self.assertEqual(stair_of(both, False), stair_of(both, True))
        self.assertGreater(steady, 100)

    def test_rides_of_stairs(self):
        for stair in some_stairs():
            self.assertEqual(stair_of(rides_of(stair), False), stair)
            self.assertEqual(stair_of(rides_of(stair), True), stair)

    def test_a_ride_lacks(self):
        for stair in some_stairs():
            rides = rides_of(stair)
            for at in range(len(rides) - 1):
                less = rides[:at] + rides[at + 1:]
                # One of the moment 0 alone leaves no gap: the next begins there, too.
                if rides[at][1] == m(0):
                    self.assertEqual(stair_of(less, False), stair_of(less, True))
                else:
                    self.assert_overtaken(less)


class TheSameStair(unittest.TestCase):
    def cut(self, rides, at):
        first, last, come, comes = [Fraction(*part) for part in rides[at]]
        middle = (m((first + last) / 2), m((come + comes) / 2))
        halves = ((rides[at][0], middle[0], rides[at][2], middle[1]), (middle[0], rides[at][1], middle[1], rides[at][3]))
        return rides[:at] + halves + rides[at + 1:]

    def alike(self, rides):
        """The same rides in other orders, some twice, each cut in two that touch."""
        chance = random.Random(len(rides))
        told = [rides[::-1], rides + rides, rides + rides[:1], tuple(chance.sample(rides, len(rides)))]
        told += [self.cut(rides, at) for at in range(len(rides))]
        return [others for others in told if is_rides(others)]

    def test_with_waiting(self):
        for rides in some_lists():
            stair = stair_of(rides, True)
            for others in self.alike(rides):
                self.assertEqual(stair_of(others, True), stair, (rides, others))

    def test_without_waiting(self):
        for stair in some_stairs():
            rides = rides_of(stair)
            for others in self.alike(rides) if rides else []:
                self.assertEqual(stair_of(others, False), stair, others)

    def test_without_waiting_refused(self):
        for text in OVERTAKING:
            for others in self.alike(row(text)):
                self.assertRaises(Overtaken, stair_of, others, False)


class AsItWas(unittest.TestCase):
    def test_things_that_are_asked_of_stay(self):
        for thing in [[[[3, 1], [5, 1]]], ([m(3), m(5), m(4), m(8)],), ((m(3), m(5), [4, 1], m(8)),), {3: [5]}]:
            before = copy.deepcopy(thing)
            self.assertIs(is_rides(thing), False)
            self.assertEqual(thing, before)

    def test_asked_again(self):
        lists = some_lists()[:60]
        before = copy.deepcopy(lists)
        told = [self.ask(rides) for rides in lists]
        self.assertEqual(lists, before)
        self.assertEqual([self.ask(copy.deepcopy(rides)) for rides in lists], told)

    def ask(self, rides):
        told = [is_rides(rides), stair_of(rides, True)]
        try:
            told.append(stair_of(rides, False))
        except Overtaken as error:
            told.append((error.first, error.second))
        for t in range(16):
            told.append((offer(rides, m(t)), set_out(rides, True, m(t)), set_out(rides, False, m(t))))
        return told

    def test_told_moments_may_be_handed_in_again(self):
        rides = row("0 999999999999/7 999999999989/999999999961 999999999999/2; 1/3 5 999999999937/999999999899 "
                    "999999999847/99999999977")
        t = m(Fraction(1, 3))
        for at in range(12):
            told = plain_set_out(rides, Fraction(*t))
            pair = set_out(rides, True, t)
            self.assertTrue(pair == (m(told[0]), m(told[1])))
            self.assertTrue(offer(rides, pair[0]) == pair[1])
            t = m(Fraction(*pair[1]) / 2)


if __name__ == "__main__":
    unittest.main()
