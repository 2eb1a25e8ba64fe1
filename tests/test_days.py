import copy
import random
import unittest
from fractions import Fraction

from hourstairs.alltimes import stairs_from
from hourstairs.days import days
from hourstairs.errors import HourError, NoDay
from hourstairs.nets import is_net
from hourstairs.nettexts import net_text, read_net
from hourstairs.soonest import soonest
from plain import m, plain_coming, row, some_rides
from plainnets import names_in, net, plain_comings, some_moments, turned

NET = net(9, "a b", "x a b: 3 5 4 8; 0 2 7/2 7/2", "y b a: 0 8 12 9", "z b c:")


def some_days(seed, many):
    """Nets where waiting is let everywhere, whose rides are all of one day of 20."""
    chance = random.Random(seed)
    told = []
    for at in range(many):
        places = "abcd"[:chance.randint(2, 4)]
        ties = {name: tuple(chance.sample(places, 2)) + (some_rides(chance, 3),)
                for name in "xyzw"[:chance.randint(1, 4)]}
        told.append((m(chance.choice([18, 20, 25])), tuple(places), ties))
    return told


class Days(unittest.TestCase):
    def test_by_hand(self):
        self.assertEqual(days(NET, m(10), 1),
                         (m(10),) + NET[1:])
        self.assertEqual(days(NET, m(10), 2), net(
            20, "a b", "x a b: 3 5 4 8; 0 2 7/2 7/2; 13 15 14 18; 10 12 27/2 27/2",
            "y b a: 0 8 12 9; 10 18 22 19", "z b c:"))
        self.assertEqual(days(NET, m("17/2"), 3), net(
            "51/2", "a b",
            "x a b: 3 5 4 8; 0 2 7/2 7/2; 23/2 27/2 25/2 33/2; 17/2 21/2 12 12; 20 22 21 25; 17 19 41/2 41/2",
            "y b a: 0 8 12 9; 17/2 33/2 41/2 35/2; 17 25 29 26", "z b c:"))

    def test_the_end_is_so_many_times_the_day_whatever_it_was(self):
        for end, day, many, told in [(9, 10, 1, 10), (100, 10, 1, 10), (0, 3, 5, 15), (9, "17/2", 4, 34),
                                     (9, "1/7", 5, "5/7"),
                                     (1, 10, 2, 20)]:
            self.assertEqual(days(net(end, "a"), m(day), many), net(told, "a"))
            self.assertEqual(days(net(end, ""), m(day), many), net(told, ""))

    def test_rides_of_day_nought_first_then_those_of_day_one(self):
        for thing in some_days(111, 20):
            told = days(thing, m(20), 5)
            self.assertIs(is_net(told), True)
            self.assertEqual(told[:2], (m(100), thing[1]))
            self.assertEqual(sorted(told[2]), sorted(thing[2]))
            for name, (a, b, rides) in thing[2].items():
                wanted = [tuple(m(Fraction(*part) + 20 * day) for part in ride) for day in range(5) for ride in rides]
                self.assertEqual(told[2][name], (a, b, tuple(wanted)))
                self.assertIs(type(told[2][name][2]), tuple)

    def test_a_day_of_many_figures(self):
        day = Fraction(999999999989, 99999999977)
        told = days(net(9, "a", "x a b: 1/999999999961 3 4 5"), m(day), 5)
        self.assertEqual(told[0], m(day * 5))
        self.assertEqual(told[2]["x"][2][4], tuple(m(day * 4 + part) for part in (Fraction(1, 999999999961), 3, 4, 5)))


class Refused(unittest.TestCase):
    def assert_refused(self, thing, day, name):
        for many in (1, 2, 5):
            for other in (thing, turned(thing)):
                with self.assertRaises(NoDay) as caught:
                    days(other, m(day), many)
                self.assertEqual(caught.exception.name, name)
                self.assertIsInstance(caught.exception, HourError)

    def test_where_waiting_is_not_let(self):
        self.assert_refused(net(9, "a", "x a b: 0 1 2 3", "y b a: 0 9 9 9"), 10, "y")
        self.assert_refused(net(9, "b", "x a b: 0 9 2 11", "y b a: 0 9 9 9"), 10, "x")
        self.assert_refused(net(9, "", "x a b:"), 10, "x")
        self.assert_refused(net(9, "x", "x a b:", "w x b:"), 10, "x")

    def test_a_last_that_is_not_below_the_day(self):
        thing = net(9, "a b", "x a b: 3 5 4 8", "y b a: 0 9 12 9")
        self.assert_refused(thing, 9, "y")
        self.assert_refused(thing, 5, "x")
        self.assert_refused(thing, "9/2", "x")
        self.assert_refused(thing, "8999999/1000000", "y")
        self.assertEqual(days(thing, m("9000001/1000000"), 1)[0], m("9000001/1000000"))
        self.assert_refused(net(9, "a", "x a b: 0 1 2 3; 9 9 9 9; 2 3 4 5"), 9, "x")
        self.assert_refused(net(9, "a", "x a b: 0 0 0 0; 1 1 1 1"), 1, "x")
        self.assertEqual(days(net(9, "a", "x a b: 0 0 0 0"), m("1/9"), 2),
                         net("2/9", "a", "x a b: 0 0 0 0; 1/9 1/9 1/9 1/9"))

    def test_comings_may_be_behind_the_day(self):
        self.assertEqual(days(net(9, "a", "x a b: 0 1 30 40"), m(2), 2), net(4, "a", "x a b: 0 1 30 40; 2 3 32 42"))

    def test_the_first_by_sorted_names(self):
        thing = net(9, "a", "xa b a: 0 9 9 9", "x a b: 0 9 9 9", "w a b: 0 1 2 3", "z c a:")
        self.assert_refused(thing, 9, "x")
        self.assert_refused(thing, 10, "xa")
        self.assert_refused(net(9, "a b", "xa b a: 0 9 9 9", "x a b: 0 8 9 9", "w a b: 0 1 2 3", "z c a:"), 9, "xa")
        self.assert_refused(net(9, "a b", "xa b a: 0 9 9 9", "x a b: 0 9 9 9", "w a b: 0 1 2 3", "z c a:"), 10, "z")


class ADayLater(unittest.TestCase):
    def test_one_comes_a_day_later(self):
        chance = random.Random(112)
        came, only_tomorrow = 0, 0
        for thing in some_days(112, 60):
            for many in range(1, 5):
                some, more = days(thing, m(20), many), days(thing, m(20), many + 1)
                for t in some_moments(chance, 3) + [Fraction(0), Fraction(19)]:
                    for start, goal in [("a", "b"), ("b", "a")]:
                        come, later = soonest(some, start, goal, m(t)), soonest(more, start, goal, m(t + 20))
                        self.assertEqual(later, None if come is None else m(Fraction(*come) + 20), (thing, many, t))
                        came += come is not None
                        only_tomorrow += come is None and soonest(more, start, goal, m(t)) is not None
        self.assertGreater(min(came, only_tomorrow), 50)

    def test_against_all_ways(self):
        for thing in some_days(113, 12):
            told = days(thing, m(20), 3)
            for t in [Fraction(0), Fraction(25, 2), Fraction(39)]:
                comings = plain_comings(told, "a", t)
                for goal in names_in(thing):
                    self.assertEqual(soonest(told, "a", goal, m(t)), m(comings[goal]) if goal in comings else None)

    def test_all_moments_of_five_days(self):
        for thing in some_days(114, 4):
            told = days(thing, m(20), 5)
            for goal, stair in stairs_from(told, "a").items():
                for t in [Fraction(at, 2) for at in range(0, 200, 3)]:
                    come = plain_coming(stair, t)
                    self.assertEqual(None if come is None else m(come), soonest(told, "a", goal, m(t)))

    def test_days_of_days(self):
        thing = days(days(NET, m(10), 2), m(20), 2)
        self.assertEqual(thing, days(NET, m(10), 4))


class AsItWas(unittest.TestCase):
    def test_what_is_handed_in_stays_and_asked_again(self):
        for thing in some_days(115, 10) + [NET]:
            before, order = copy.deepcopy(thing), list(thing[2])
            told = days(thing, m(20), 3)
            self.assertEqual((thing, list(thing[2])), (before, order))
            self.assertEqual(days(turned(thing), m(20), 3), told)
            self.assertEqual(read_net(net_text(told)), told)

    def test_the_ties_are_the_askers_own(self):
        thing = copy.deepcopy(NET)
        told = days(thing, m(10), 1)
        told[2].clear()
        self.assertEqual(thing, NET)
        told = days(thing, m(10), 1)
        thing[2]["x"] = ("a", "b", row("0 1 2 3"))
        self.assertEqual(told[2], NET[2])


if __name__ == "__main__":
    unittest.main()
