import copy
import itertools
import random
import unittest
from fractions import Fraction

from hourstairs.backwards import leaving_paper, leavings, reads_leavings
from hourstairs.soonest import soonest
from plain import NO_MOMENTS, TINY, m, row
from plainnets import (
    NO_KEYS, ODDS, names_in, net, no_pairs, pairs, plain_comings, plain_tie, some_change, some_moments, some_net,
    turned)

# To d from a by x and v, or by z and v; at b one cannot wait; from e one never comes there.
NET = net(20, "a c", "x a b: 2 4 4 6; 8 8 9 9", "y b c: 0 20 2 22", "z a c: 0 9 10 14", "w c a: 0 20 1 21",
          "v c d: 10 12 11 13", "u d e: 0 20 1 21")
# Ties of no riding time lead round: a to b and back, b to c and back.
STILL = net(9, "", "p a b: 0 9 0 9", "q b a: 0 9 0 9", "r b c: 0 9 0 9", "s c b: 0 9 0 9", "t c d: 0 9 1 10")
SIXTY = Fraction(10 ** 60 + 7, 10 ** 59 - 7)


def asked(seed, many):
    """Nets, goals and moments, some behind the end, some goals that no tie touches."""
    chance = random.Random(seed)
    told = []
    for at in range(many):
        thing = some_net(chance)
        for y in some_moments(chance, 4) + [Fraction(0), Fraction(30), Fraction(50)]:
            told.append((thing, chance.choice(names_in(thing) + ["zz"]), y))
    return told


def comes_by(thing, place, goal, t, y):
    """Whether one who is there at t comes to the goal by y, of all ways ridden one by one."""
    come = plain_comings(thing, place, t).get(goal)
    return come is not None and come <= y


def plain_reads(thing, goal, y, paper):
    """Whether a dict of names and right pairs is a leaving paper, seen by all ways at and behind its moments."""
    if paper.get(goal) != (m(y), ""):
        return False
    for place in set(names_in(thing)) | set(paper):
        if place not in paper:
            if comes_by(thing, place, goal, Fraction(0), y):
                return False
        elif place != goal:
            moment, tie = Fraction(*paper[place][0]), paper[place][1]
            if not comes_by(thing, place, goal, moment, y) or comes_by(thing, place, goal, moment + TINY, y):
                return False
            if tie not in thing[2] or thing[2][tie][0] != place or thing[2][tie][1] not in paper:
                return False
            told = plain_tie(thing, tie, moment)
            if told is None or told[1] > Fraction(*paper[thing[2][tie][1]][0]):
                return False
    for place in paper:
        for step in range(9):
            place = place if place == goal else thing[2][paper[place][1]][1]
        if place != goal:
            return False
    return True


class Leavings(unittest.TestCase):
    def test_by_hand(self):
        for goal, y, told in [("d", 13, dict(a=8, b=10, c=12, d=13)), ("d", 12, dict(a=8, b=9, c=11, d=12)),
                              ("d", 11, dict(a=4, b=8, c=10, d=11)), ("d", "21/2", dict(d="21/2")),
                              ("c", 11, dict(a=8, b=9, c=11)), ("c", 8, dict(a=4, b=6, c=8)),
                              ("c", 7, dict(a=3, b=5, c=7)), ("c", 5, dict(b=3, c=5)), ("c", 1, dict(c=1)),
                              ("e", 14, dict(a=8, b=10, c=12, d=13, e=14)), ("a", 4, dict(a=4, b=1, c=3)),
                              ("e", 100, dict(a=8, b=10, c=12, d=20, e=100)), ("zz", 5, dict(zz=5))]:
            self.assertEqual(leavings(NET, goal, m(y)), {place: m(t) for place, t in told.items()}, (goal, y))

    def test_of_the_goal_the_moment_itself(self):
        for goal, y in itertools.product(["a", "e", "zz"], [0, "7/2", 20, 10 ** 9]):
            self.assertEqual(leavings(NET, goal, m(y))[goal], m(y))
        self.assertEqual(leavings(net(0, ""), "a", m(3)), {"a": m(3)})

    def test_against_all_ways(self):
        several, lacking = 0, 0
        for thing, goal, y in asked(81, 40):
            told = leavings(thing, goal, m(y))
            self.assertIs(type(told), dict)
            several, lacking = several + (len(told) > 2), lacking + (len(told) < len(names_in(thing)))
            for place in names_in(thing) + ["zz"]:
                if place not in told:
                    self.assertFalse(comes_by(thing, place, goal, Fraction(0), y))
                    continue
                t = Fraction(*told[place])
                self.assertEqual(told[place], m(t))
                for moment in [t, t / 2, max(t - TINY, Fraction(0)), Fraction(0)]:
                    self.assertTrue(comes_by(thing, place, goal, moment, y), (thing, place, goal, moment, y))
                for moment in [t + TINY, t + 1]:
                    self.assertFalse(comes_by(thing, place, goal, moment, y), (thing, place, goal, moment, y))
        self.assertGreater(min(several, lacking), 50)

    def test_not_behind_just_if_the_soonest_coming_is_not(self):
        chance = random.Random(82)
        for thing, goal, y in asked(82, 40):
            told = leavings(thing, goal, m(y))
            for place, t in itertools.product(names_in(thing), some_moments(chance, 6)):
                come = soonest(thing, place, goal, m(t))
                by_then = come is not None and Fraction(*come) <= y
                self.assertEqual(by_then, place in told and t <= Fraction(*told[place]), (thing, place, goal, t, y))

    def test_nine_places(self):
        chain = [f"{name} {a} {b}: 0 90 1 91" for name, a, b in zip("klmnopqr", "abcdefgh", "bcdefghi")]
        thing = net(90, "", *chain, "s a i: 0 90 20 110", "t i a: 0 90 0 90")
        self.assertEqual(leavings(thing, "i", m(50)), {place: m(50 - 8 + at) for at, place in enumerate("abcdefghi")})
        self.assertEqual(leavings(thing, "i", m(105))["a"], m(85))
        self.assertEqual(leavings(thing, "i", m(91))["a"], m(83))


class LeavingPaper(unittest.TestCase):
    def test_by_hand(self):
        self.assertEqual(leaving_paper(NET, "d", m(13)), pairs(d="13", c="12 v", b="10 y", a="8 x"))
        self.assertEqual(leaving_paper(NET, "d", m(5)), pairs(d="5"))
        self.assertEqual(leaving_paper(NET, "zz", m(5)), pairs(zz="5"))
        self.assertEqual(leaving_paper(STILL, "a", m(4)), pairs(a="4", b="4 q", c="4 s"))

    def test_as_it_is_told(self):
        for thing, goal, y in asked(83, 40):
            paper = leaving_paper(thing, goal, m(y))
            self.assertIs(type(paper), dict)
            self.assertEqual({place: moment for place, (moment, tie) in paper.items()}, leavings(thing, goal, m(y)))
            self.assertTrue(plain_reads(thing, goal, y, paper), (thing, goal, y, paper))
            self.assertIs(reads_leavings(thing, goal, m(y), paper), True)

    def test_the_order_of_ties_has_no_bearing(self):
        thing = net(9, "", "x a b: 0 9 1 10", "y a b: 0 9 1 10", "w a c: 0 9 1 10", "z c b: 0 9 0 9")
        for names in itertools.permutations(thing[2]):
            other = (thing[0], thing[1], {name: thing[2][name] for name in names})
            self.assertEqual(leaving_paper(other, "b", m(8)), leaving_paper(thing, "b", m(8)))


class ReadsLeavings(unittest.TestCase):
    def assert_not_read(self, thing, goal, y, *papers):
        self.assertIs(reads_leavings(thing, goal, m(y), leaving_paper(thing, goal, m(y))), True)
        for paper in papers:
            self.assertIs(reads_leavings(thing, goal, m(y), paper), False, paper)

    def changed(self, thing, goal, y, **told):
        return {**leaving_paper(thing, goal, m(y)), **pairs(**told)}

    def left_out(self, thing, goal, y, place):
        return {name: pair for name, pair in leaving_paper(thing, goal, m(y)).items() if name != place}

    def test_read(self):
        for thing, goal, y, paper in [
                (NET, "d", 13, pairs(d="13", c="12 v", b="10 y", a="8 x")), (NET, "zz", 9, pairs(zz="9")),
                (STILL, "d", 4, pairs(d="4", c="3 t", b="3 r", a="3 p")), (net(0, ""), "q", 5, pairs(q="5")),
                (NET, "e", 100, pairs(e="100", d="20 u", c="12 v", b="10 y", a="8 x"))]:
            self.assertIs(reads_leavings(thing, goal, m(y), paper), True, paper)

    def test_any_tie_that_is_in_time(self):
        # By x and w one comes at the very moment, by y sooner, by z too late; v and u do not begin there.
        thing = net(9, "", "x a b: 0 5 1 6", "y a b: 0 5 0 5", "z a b: 0 5 1 7", "w a c: 0 9 1 10", "v c b: 0 6 0 6",
                    "u b d: 0 6 1 7")
        paper = pairs(d="7", b="6 u", c="6 v")
        for tie in "xyzwvu":
            self.assertIs(reads_leavings(thing, "d", m(7), {**paper, "a": (m(5), tie)}), tie in "xyw", tie)
        self.assertEqual(leavings(thing, "d", m(7))["a"], m(5))

    def test_the_goals_pair(self):
        self.assert_not_read(NET, "d", 13, {}, self.left_out(NET, "d", 13, "d"), self.changed(NET, "d", 13, d="12"),
                             self.changed(NET, "d", 13, d="14"), self.changed(NET, "d", 13, d="13 u"),
                             self.changed(NET, "d", 13, d="13 v"), leaving_paper(NET, "d", m(12)))
        self.assert_not_read(NET, "zz", 0, {}, pairs(a="0"), pairs(zz="1"), pairs(zz="0 x"), pairs(zz="0 zz"))
        self.assert_not_read(STILL, "a", 3, self.changed(STILL, "a", 3, a="3 p"))

    def test_of_another_goal(self):
        for one, other in itertools.permutations("abcde", 2):
            self.assert_not_read(NET, one, 13, leaving_paper(NET, other, m(13)))
        for one, other in itertools.permutations("abc", 2):
            self.assert_not_read(STILL, one, 4, leaving_paper(STILL, other, m(4)))

    def test_a_place_left_out(self):
        for place in "abcd":
            self.assert_not_read(NET, "d", 13, self.left_out(NET, "d", 13, place))
        self.assert_not_read(NET, "d", 13, pairs(d="13"), pairs(d="13", c="12 v"))

    def test_a_place_more(self):
        for tie in ["", "u", "v", "x", "zz"]:
            self.assert_not_read(NET, "d", 13, self.changed(NET, "d", 13, e="5 " + tie),
                                 self.changed(NET, "d", 13, zz="5 " + tie))
        self.assert_not_read(NET, "d", 11, self.changed(NET, "d", 11, e="11 u"), self.changed(NET, "d", 11, e="10 "))
        self.assert_not_read(NET, "d", 5, self.changed(NET, "d", 5, c="5 v"), self.changed(NET, "d", 5, c="0 v"))

    def test_a_moment_later_or_sooner(self):
        for place, by in itertools.product("abc", [1, -1, Fraction(1, 10 ** 12), Fraction(-1, 10 ** 12)]):
            paper = leaving_paper(NET, "d", m(13))
            moment, tie = paper[place]
            self.assert_not_read(NET, "d", 13, {**paper, place: (m(Fraction(*moment) + by), tie)})
        # All in time and all led to the goal, but later ones would be, too.
        self.assert_not_read(NET, "d", 13, pairs(d="13", c="11 v", b="9 y", a="8 x"),
                             pairs(d="13", c="12 v", b="10 y", a="3 z"))

    def test_another_tie(self):
        for place, tie in itertools.product("abc", ["", "u", "v", "w", "x", "y", "z", "zz", "a", "x ", "X"]):
            paper = leaving_paper(NET, "d", m(13))
            if paper[place][1] != tie:
                self.assert_not_read(NET, "d", 13, {**paper, place: (paper[place][0], tie)})

    def test_a_tie_that_begins_elsewhere(self):
        thing = net(9, "", "x a c: 0 9 1 10", "y b c: 0 9 1 10")
        self.assert_not_read(thing, "c", 5, pairs(c="5", a="4 y", b="4 y"), pairs(c="5", a="4 y", b="4 x"),
                             pairs(c="5", a="4 x", b="4 x"))

    def test_a_tie_to_a_place_that_lacks(self):
        thing = net(9, "", "x a b: 0 9 1 10", "y a c: 0 9 1 10", "z d a: 0 9 1 10")
        self.assert_not_read(thing, "b", 5, pairs(b="5", a="4 y", d="3 z"))

    def test_a_tie_by_which_one_does_not_come_or_too_late(self):
        thing = net(9, "", "x a b: 0 4 1 5", "y a b: 0 3 1 4", "z a b: 0 9 2 11", "w a c: 0 9 0 9")
        self.assert_not_read(thing, "b", 5, pairs(b="5", a="4 y"), pairs(b="5", a="4 z"), pairs(b="5", a="4 w"))
        self.assertIs(reads_leavings(thing, "b", m(5), pairs(b="5", a="4 x")), True)

    def test_ties_that_lead_round(self):
        self.assert_not_read(STILL, "a", 3, pairs(a="3", b="3 r", c="3 s"))
        self.assert_not_read(STILL, "d", 4, pairs(d="4", c="3 s", b="3 r", a="3 p"),
                             pairs(d="4", c="3 t", b="3 q", a="3 p"))
        self.assert_not_read(STILL, "zz", 3, pairs(zz="3", a="3 p", b="3 q"), pairs(zz="3", a="3 p", b="3 r", c="3 s"))
        long = net(9, "", "p b a: 0 9 0 9", "q b c: 0 9 0 9", "r c d: 0 9 0 9", "s d b: 0 9 0 9")
        self.assert_not_read(long, "a", 5, pairs(a="5", b="5 q", c="5 r", d="5 s"))

    def test_keys_that_are_no_names(self):
        for key in NO_KEYS:
            for pair in [(m(13), ""), (m(8), "x"), None, ()]:
                self.assert_not_read(NET, "d", 13, {**leaving_paper(NET, "d", m(13)), key: pair}, {key: pair})

    def test_pairs_that_are_none(self):
        paper = leaving_paper(NET, "d", m(13))
        for place in "ad":
            for thing in no_pairs(paper[place]):
                self.assert_not_read(NET, "d", 13, {**paper, place: thing})

    def test_moments_that_are_none(self):
        paper = leaving_paper(NET, "d", m(13))
        for place, thing in itertools.product("ad", NO_MOMENTS + ODDS):
            self.assert_not_read(NET, "d", 13, {**paper, place: (thing, paper[place][1])})
        thing = net(9, "", "x a b: 0 1 0 1")
        for b, a in [((True, 1), m(1)), (m(1), (True, 1)), (m(1), (1, True)), (m(1), (2, 2)), ((2, 2), m(1)),
                     ((1, True), m(1))]:
            self.assert_not_read(thing, "b", 1, {"b": (b, ""), "a": (a, "x")})

    def test_ties_that_are_no_texts_or_none_of_the_net(self):
        paper = leaving_paper(NET, "d", m(13))
        for place, thing in itertools.product("ad", ODDS):
            if (paper[place][0], thing) != paper[place]:
                self.assert_not_read(NET, "d", 13, {**paper, place: (paper[place][0], thing)})

    def test_moments_of_sixty_figures(self):
        for thing, goal in [(NET, "c"), (STILL, "d"), (NET, "a")]:
            paper = leaving_paper(thing, goal, m(SIXTY))
            self.assertGreater(len(paper), 2)
            self.assertIs(reads_leavings(thing, goal, m(SIXTY), paper), True)
            for place in paper:
                for by in [Fraction(1, 10 ** 60), -Fraction(1, 10 ** 60)]:
                    other = (m(Fraction(*paper[place][0]) + by), paper[place][1])
                    self.assertIs(reads_leavings(thing, goal, m(SIXTY), {**paper, place: other}), False)

    def test_any_size(self):
        many = {"".join(letters): (m(8), "x") for letters in itertools.product("abcdefghij", repeat=4)}
        self.assertIs(reads_leavings(NET, "d", m(13), {**many, **leaving_paper(NET, "d", m(13))}), False)

    def test_some_papers(self):
        chance = random.Random(84)
        read, not_read = 0, 0
        for thing, goal, y in asked(84, 40):
            for at in range(6):
                paper = some_change(chance, thing, leaving_paper(thing, goal, m(y)), 0)
                told = plain_reads(thing, goal, y, paper)
                read, not_read = read + told, not_read + (not told)
                self.assertIs(reads_leavings(thing, goal, m(y), paper), told, (thing, goal, y, paper))
        self.assertGreater(min(read, not_read), 100)


class AsItWas(unittest.TestCase):
    def ask(self, thing, goal, y):
        paper = leaving_paper(thing, goal, m(y))
        return [paper, leavings(thing, goal, m(y)), reads_leavings(thing, goal, m(y), paper)]

    def test_what_is_handed_in_stays_and_asked_again(self):
        for thing, goal, y in asked(85, 20):
            before, order = copy.deepcopy(thing), list(thing[2])
            told = self.ask(thing, goal, y)
            self.assertEqual((thing, list(thing[2])), (before, order))
            self.assertEqual(self.ask(before, goal, y), told)
            self.assertEqual(self.ask(turned(thing), goal, y), told)
        paper = {"d": [m(13), [""]], "b": {"x": [1]}}
        before = copy.deepcopy(paper)
        self.assertIs(reads_leavings(NET, "d", m(13), paper), False)
        self.assertEqual(paper, before)

    def test_the_dicts_are_the_askers_own(self):
        told, paper = leavings(NET, "d", m(13)), leaving_paper(NET, "d", m(13))
        before = (dict(told), dict(paper))
        told["a"] = m(0)
        del paper["b"]
        paper["zz"] = None
        self.assertEqual((leavings(NET, "d", m(13)), leaving_paper(NET, "d", m(13))), before)

    def test_what_is_done_later_has_no_bearing(self):
        thing = copy.deepcopy(NET)
        paper = leaving_paper(thing, "d", m(13))
        del thing[2]["y"]
        self.assertEqual(paper, pairs(d="13", c="12 v", b="10 y", a="8 x"))
        self.assertEqual(leavings(thing, "d", m(13)), {"a": m("9/2"), "c": m(12), "d": m(13)})
        self.assertIs(reads_leavings(thing, "d", m(13), paper), False)
        thing[2]["y"] = ("b", "c", row("0 20 2 22"))
        self.assertIs(reads_leavings(thing, "d", m(13), paper), True)


if __name__ == "__main__":
    unittest.main()
