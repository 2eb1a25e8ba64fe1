import copy
import itertools
import random
import unittest
from fractions import Fraction

from hourstairs.soonest import paper_of, reads_paper, ridden, soonest, way_to
from plain import NO_MOMENTS, m, m_or_none, row
from plainnets import (
    NO_KEYS, ODDS, names_in, net, no_pairs, pairs, plain_comings, plain_end, plain_ridden, plain_tie, some_change,
    some_moments, some_net, some_nets, turned, ways_of)

# By x and then y one comes to c sooner than by z, unless one misses y; w leads back, v on to d.
NET = net(20, "a c", "x a b: 2 4 4 6; 8 8 9 9", "y b c: 0 20 2 22", "z a c: 0 9 9 12", "w c a: 0 20 1 21",
          "v c d: 10 10 11 11")
# Ties of no riding time lead round: a to b and back, b to c and back.
STILL = net(9, "", "p a b: 0 9 0 9", "q b a: 0 9 0 9", "r b c: 0 9 0 9", "s c b: 0 9 0 9", "t c d: 0 9 1 10")
SIXTY = Fraction(10 ** 59 + 1, 10 ** 59 - 7)


def asked(seed, many):
    """Nets, starts and moments, some behind the end, some starts that no tie touches."""
    chance = random.Random(seed)
    told = []
    for at in range(many):
        thing = some_net(chance)
        for t in some_moments(chance, 4) + [Fraction(0), Fraction(30), Fraction(31)]:
            told.append((thing, chance.choice(names_in(thing) + ["zz"]), t))
    return told


class Ridden(unittest.TestCase):
    def assert_ridden(self, thing, way, t, *rows):
        told = ridden(thing, tuple(way.split()), m(t))
        self.assertEqual(told, tuple((name, m(out), m(come)) for name, out, come in rows))
        self.assertTrue(type(told) is tuple and all(type(part) is tuple for part in told))

    def test_with_waiting_and_without(self):
        self.assert_ridden(NET, "x", 0, ("x", 2, 4))
        self.assert_ridden(NET, "x", 3, ("x", 3, 5))
        self.assert_ridden(NET, "x", 5, ("x", 8, 9))
        self.assert_ridden(NET, "y", 5, ("y", 5, 7))
        self.assert_ridden(NET, "x y", 0, ("x", 2, 4), ("y", 4, 6))
        self.assert_ridden(NET, "x y v", 1, ("x", 2, 4), ("y", 4, 6), ("v", 10, 11))
        self.assert_ridden(NET, "z v", "1/2", ("z", "1/2", "55/6"), ("v", 10, 11))

    def test_the_way_of_no_ties(self):
        for thing, t in itertools.product([NET, STILL, net(0, "")], [0, 5, 100]):
            self.assertEqual(ridden(thing, (), m(t)), ())

    def test_one_of_them_cannot_be_ridden(self):
        for way, t in [("x", "81/10"), ("x y", 9), ("x y v", 8), ("v", 11), ("z v", 9), ("z w x", 5), ("y", 21)]:
            self.assertIsNone(ridden(NET, tuple(way.split()), m(t)), (way, t))
        gap = net(9, "", "x a b: 0 2 1 3", "y b c: 0 1 1 2")
        self.assertIsNone(ridden(gap, ("x", "y"), m("1/2")))
        self.assertIsNone(ridden(gap, ("x",), m(3)))

    def test_a_way_that_comes_to_a_place_twice(self):
        self.assert_ridden(NET, "x y w x", 0, ("x", 2, 4), ("y", 4, 6), ("w", 6, 7), ("x", 8, 9))
        self.assert_ridden(STILL, "p q p r s", 3, *[(name, 3, 3) for name in "pqprs"])

    def test_behind_the_end(self):
        for way in [("x",), ("y",), ("y", "w"), ("w", "x", "y")]:
            self.assertIsNone(ridden(NET, way, m(21)), way)
        self.assert_ridden(NET, "y", 20, ("y", 20, 22))
        self.assertIsNone(ridden(NET, ("y", "w"), m(20)))

    def test_some_ways(self):
        chance = random.Random(61)
        some, none = 0, 0
        for thing, start, t in asked(61, 25):
            ways = [way for way, place in ways_of(thing, start, 4)]
            for way in chance.sample(ways, min(len(ways), 12)):
                rows = plain_ridden(thing, way, t)
                some, none = some + (rows is not None), none + (rows is None)
                told = None if rows is None else tuple((name, m(out), m(come)) for name, out, come in rows)
                self.assertEqual(ridden(thing, way, m(t)), told, (thing, way, t))
        self.assertGreater(min(some, none), 100)


class Soonest(unittest.TestCase):
    def test_by_hand(self):
        for goal, t, told in [("b", 0, 4), ("c", 0, 6), ("c", 4, 8), ("c", 5, "32/3"), ("c", 8, 11), ("d", 4, 11),
                              ("d", 8, None), ("c", 9, 12), ("c", "91/10", None), ("a", 7, 7), ("b", 5, 9), ("b", 8, 9),
                              ("b", 9, None)]:
            self.assertEqual(soonest(NET, "a", goal, m(t)), None if told is None else m(told), (goal, t))

    def test_the_start_itself(self):
        for start, t in itertools.product(["a", "b", "c", "d", "zz"], [0, "7/2", 20, 21, 10 ** 9]):
            self.assertEqual(soonest(NET, start, start, m(t)), m(t))

    def test_names_that_no_tie_touches(self):
        thing = net(9, "a q", "x a b: 0 9 0 9")
        for one, other in itertools.permutations(["zz", "q", "a", "x"], 2):
            self.assertIsNone(soonest(thing, one, other, m(0)), (one, other))
            self.assertIsNone(way_to(thing, one, other, m(0)), (one, other))
        self.assertEqual(soonest(thing, "q", "q", m(3)), m(3))
        self.assertEqual(soonest(net(9, ""), "a", "a", m(3)), m(3))
        self.assertIsNone(soonest(net(9, ""), "a", "b", m(3)))

    def test_against_all_ways(self):
        many = 0
        for thing, start, t in asked(62, 60):
            comings = plain_comings(thing, start, t)
            many += len(comings) > 2
            for goal in names_in(thing) + ["zz", start]:
                self.assertEqual(soonest(thing, start, goal, m(t)), m_or_none(comings.get(goal)),
                                 (thing, start, goal, t))
        self.assertGreater(many, 50)

    def test_a_later_moment_never_comes_sooner(self):
        chance = random.Random(63)
        for thing in some_nets(63, 40):
            moments = sorted(some_moments(chance, 8))
            for start, goal in itertools.product(names_in(thing), repeat=2):
                told = [soonest(thing, start, goal, m(t)) for t in moments]
                comings = [Fraction(*moment) for moment in told if moment is not None]
                self.assertEqual(comings, sorted(comings))
                self.assertNotIn(None, told[:len(comings)])

    def test_nine_places_ten_ties(self):
        chain = [f"t{chr(97 + at)} {chr(97 + at)} {chr(98 + at)}: 0 90 1 91; {at} {at} {at} {at}" for at in range(8)]
        thing = net(90, "a b c d e f g h i", *chain, "u a e: 0 90 3 93", "w e i: 2 90 5 93")
        for t, told in [(0, 6), (1, 7), (2, 8), (83, 89), (87, 93), (88, None), (90, None)]:
            self.assertEqual(soonest(thing, "a", "i", m(t)), None if told is None else m(told), t)
            way = way_to(thing, "a", "i", m(t))
            self.assertEqual(way and plain_end(thing, way, Fraction(t)), told)


class WayTo(unittest.TestCase):
    def test_by_hand(self):
        for goal, t, told in [("b", 0, ("x",)), ("c", 0, ("x", "y")), ("c", 5, ("z",)), ("d", 4, ("x", "y", "v")),
                              ("d", 8, None),
                              ("c", 10, None), ("zz", 0, None)]:
            self.assertEqual(way_to(NET, "a", goal, m(t)), told)

    def test_the_start_itself(self):
        for start, t in itertools.product(["a", "b", "zz"], [0, 21]):
            self.assertEqual(way_to(NET, start, start, m(t)), ())

    def test_ridden_it_comes_just_then(self):
        some, none = 0, 0
        for thing, start, t in asked(64, 60):
            ways = dict(ways_of(thing, start, 8))
            for goal in names_in(thing) + ["zz"]:
                way, come = way_to(thing, start, goal, m(t)), soonest(thing, start, goal, m(t))
                some, none = some + (way is not None), none + (way is None)
                if come is None:
                    self.assertIsNone(way)
                else:
                    self.assertIs(type(way), tuple)
                    self.assertEqual(ways[way], goal)
                    self.assertEqual(m(plain_end(thing, way, t)), come)
        self.assertGreater(min(some, none), 200)


class PaperOf(unittest.TestCase):
    def test_by_hand(self):
        self.assertEqual(paper_of(NET, "a", m(0)), pairs(a="0", b="4 x", c="6 y", d="11 v"))
        self.assertEqual(paper_of(NET, "a", m(5)), pairs(a="5", b="9 x", c="32/3 z"))
        self.assertEqual(paper_of(NET, "d", m(5)), pairs(d="5"))
        self.assertEqual(paper_of(NET, "zz", m(5)), pairs(zz="5"))
        self.assertEqual(paper_of(NET, "c", m(10)), pairs(c="10", a="11 w", d="11 v"))
        self.assertEqual(paper_of(NET, "a", m(21)), pairs(a="21"))
        self.assertEqual(paper_of(STILL, "c", m(4)), pairs(c="4", b="4 s", a="4 q", d="5 t"))

    def test_as_it_is_told(self):
        for thing, start, t in asked(65, 60):
            paper = paper_of(thing, start, m(t))
            self.assertIs(type(paper), dict)
            self.assertTrue(plain_reads(thing, start, t, paper), (thing, start, t))
            self.assertIs(reads_paper(thing, start, m(t), paper), True)

    def test_the_order_of_ties_has_no_bearing(self):
        thing = net(9, "", "x a b: 0 9 1 10", "y a b: 0 9 1 10", "w c b: 0 9 1 10", "z a c: 0 9 0 9")
        for names in itertools.permutations(thing[2]):
            other = (thing[0], thing[1], {name: thing[2][name] for name in names})
            self.assertEqual(paper_of(other, "a", m(1)), paper_of(thing, "a", m(1)))
            self.assertEqual(way_to(other, "a", "b", m(1)), way_to(thing, "a", "b", m(1)))
        for thing, start, t in asked(66, 30):
            self.assertEqual(paper_of(turned(thing), start, m(t)), paper_of(thing, start, m(t)))


def plain_reads(thing, start, t, paper):
    """Whether a dict of names and right pairs is a paper of the start, with all ways ridden one by one."""
    comings = plain_comings(thing, start, t)
    if {place: m(come) for place, come in comings.items()} != {place: moment for place, (moment, tie) in paper.items()}:
        return False
    for place, (moment, tie) in paper.items():
        if place == start:
            if tie != "":
                return False
            continue
        if tie not in thing[2] or thing[2][tie][1] != place:
            return False
        told = plain_tie(thing, tie, comings[thing[2][tie][0]]) if thing[2][tie][0] in comings else None
        if told is None or m(told[1]) != moment:
            return False
        for step in range(9):
            place = place if place == start else thing[2][paper[place][1]][0] if paper[place][1] in thing[2] else None
            if place not in paper:
                return False
        if place != start:
            return False
    return True


class ReadsPaper(unittest.TestCase):
    def assert_not_read(self, thing, start, t, *papers):
        self.assertIs(reads_paper(thing, start, m(t), paper_of(thing, start, m(t))), True)
        for paper in papers:
            self.assertIs(reads_paper(thing, start, m(t), paper), False, paper)

    def changed(self, thing, start, t, **told):
        return {**paper_of(thing, start, m(t)), **pairs(**told)}

    def left_out(self, thing, start, t, place):
        return {name: pair for name, pair in paper_of(thing, start, m(t)).items() if name != place}

    def test_read(self):
        for thing, start, t, paper in [
                (NET, "a", 0, pairs(a="0", b="4 x", c="6 y", d="11 v")), (NET, "zz", 9, pairs(zz="9")),
                (STILL, "a", 3, pairs(a="3", b="3 p", c="3 r", d="4 t")), (net(0, ""), "q", 5, pairs(q="5")),
                (NET, "a", 21, pairs(a="21"))]:
            self.assertIs(reads_paper(thing, start, m(t), paper), True, paper)

    def test_any_of_several_ties_that_come_then(self):
        thing = net(9, "c", "x a b: 0 9 1 10", "y a b: 0 9 2 10", "w c b: 1 9 1 10", "z a c: 0 9 0 9")
        for tie, told in [("x", True), ("w", True), ("y", False), ("z", False)]:
            self.assertIs(reads_paper(thing, "a", m(0), pairs(a="0", b="1 " + tie, c="0 z")), told, tie)

    def test_the_starts_pair(self):
        self.assert_not_read(NET, "a", 0, {}, self.left_out(NET, "a", 0, "a"), self.changed(NET, "a", 0, a="1"),
                             self.changed(NET, "a", 0, a="0 w"), self.changed(NET, "a", 0, a="0 x"),
                             self.changed(NET, "a", 0, a="0 zz"), paper_of(NET, "a", m(1)), paper_of(NET, "b", m(0)))
        self.assert_not_read(NET, "zz", 0, {}, pairs(a="0"), pairs(zz="1"), pairs(zz="0 x"), pairs(zz="0 zz"))
        self.assert_not_read(STILL, "a", 3, self.changed(STILL, "a", 3, a="3 q"))

    def test_a_place_left_out(self):
        for place in "abcd":
            self.assert_not_read(NET, "a", 0, self.left_out(NET, "a", 0, place))
        self.assert_not_read(NET, "a", 0, pairs(a="0"), pairs(a="0", b="4 x"))

    def test_a_place_more(self):
        for tie in ["", "x", "v", "zz"]:
            self.assert_not_read(NET, "a", 0, self.changed(NET, "a", 0, zz="5 " + tie),
                                 self.changed(NET, "a", 0, e="5 " + tie))
        self.assert_not_read(NET, "a", 5, self.changed(NET, "a", 5, d="11 v"), self.changed(NET, "a", 5, d="32/3 v"))
        self.assert_not_read(NET, "d", 5, self.changed(NET, "d", 5, c="5 v"), self.changed(NET, "d", 5, a="5 "))

    def test_a_moment_later_or_sooner(self):
        for place, by in itertools.product("bcd", [1, -1, Fraction(1, 10 ** 12), Fraction(-1, 10 ** 12)]):
            paper = paper_of(NET, "a", m(0))
            moment, tie = paper[place]
            self.assert_not_read(NET, "a", 0, {**paper, place: (m(Fraction(*moment) + by), tie)})
        # Later by a way that can be ridden just so: only that z comes sooner, or x then y, shows it.
        self.assert_not_read(NET, "a", 0, self.changed(NET, "a", 0, c="9 z"))
        self.assert_not_read(NET, "a", 5, self.changed(NET, "a", 5, c="11 y"))

    def test_another_tie(self):
        for place, tie in itertools.product("bcd", ["", "w", "zz", "a", "x", "y", "z", "v", "x ", "X"]):
            paper = paper_of(NET, "a", m(0))
            if paper[place][1] != tie:
                self.assert_not_read(NET, "a", 0, {**paper, place: (paper[place][0], tie)})

    def test_a_tie_that_ends_elsewhere(self):
        thing = net(9, "", "x a b: 0 9 1 10", "y a c: 0 9 1 10")
        self.assert_not_read(thing, "a", 0, pairs(a="0", b="1 y", c="1 y"), pairs(a="0", b="1 y", c="1 x"),
                             pairs(a="0", b="1 x", c="1 x"))

    def test_a_tie_from_a_place_that_lacks(self):
        thing = net(9, "", "x a b: 0 9 1 10", "y c b: 0 9 1 10", "z b d: 0 9 1 10")
        self.assert_not_read(thing, "a", 0, pairs(a="0", b="1 y", d="2 z"))

    def test_ties_that_lead_round(self):
        self.assert_not_read(STILL, "a", 3, pairs(a="3", b="3 s", c="3 r", d="4 t"))
        self.assert_not_read(STILL, "d", 3, pairs(d="3", a="3 q", b="3 p"), pairs(d="3", a="3 q", b="3 s", c="3 r"))
        thing = net(9, "", "p b c: 0 9 1 10", "q c b: 0 9 1 10", "x a b: 0 9 2 10", "y a c: 0 9 2 10")
        self.assert_not_read(thing, "a", 0, pairs(a="0", b="2 q", c="2 p"), pairs(a="0", b="1 q", c="1 p"))
        long = net(9, "", "p a b: 0 9 0 9", "q b c: 0 9 0 9", "r c d: 0 9 0 9", "s d b: 0 9 0 9")
        self.assert_not_read(long, "a", 0, pairs(a="0", b="0 s", c="0 q", d="0 r"))
        # From itself alone one comes to zz; a ring of still ties beside it is not come to.
        self.assert_not_read(STILL, "zz", 3, pairs(zz="3", a="3 q", b="3 p"))

    def test_keys_that_are_no_names(self):
        for key in NO_KEYS:
            for pair in [(m(0), ""), (m(4), "x"), None, ()]:
                self.assert_not_read(NET, "a", 0, {**paper_of(NET, "a", m(0)), key: pair}, {key: pair})

    def test_pairs_that_are_none(self):
        paper = paper_of(NET, "a", m(0))
        for place in "ac":
            for thing in no_pairs(paper[place]):
                self.assert_not_read(NET, "a", 0, {**paper, place: thing})

    def test_moments_that_are_none(self):
        for place in "ac":
            for thing in NO_MOMENTS + ODDS:
                self.assert_not_read(NET, "a", 0,
                                     {**paper_of(NET, "a", m(0)), place: (thing, paper_of(NET, "a", m(0))[place][1])})
        thing = net(9, "", "x a b: 0 9 1 10")
        for start, b in [((False, 1), m(1)), (m(0), (True, 1)), (m(0), (1, True)), (m(0), (2, 2)), ((0, 2), m(1)),
                         ((0, True), m(1))]:
            self.assert_not_read(thing, "a", 0, {"a": (start, ""), "b": (b, "x")})

    def test_ties_that_are_no_texts_or_none_of_the_net(self):
        for place, thing in itertools.product("ac", ODDS):
            pair = (paper_of(NET, "a", m(0))[place][0], thing)
            if pair != paper_of(NET, "a", m(0))[place]:
                self.assert_not_read(NET, "a", 0, {**paper_of(NET, "a", m(0)), place: pair})

    def test_moments_of_sixty_figures(self):
        for thing, start in [(NET, "a"), (STILL, "a"), (NET, "c")]:
            paper = paper_of(thing, start, m(SIXTY))
            self.assertGreater(len(paper), 2)
            self.assertTrue(plain_reads(thing, start, SIXTY, paper))
            self.assertIs(reads_paper(thing, start, m(SIXTY), paper), True)
            for place in paper:
                for by in [Fraction(1, 10 ** 60), -Fraction(1, 10 ** 60)]:
                    other = (m(Fraction(*paper[place][0]) + by), paper[place][1])
                    self.assertIs(reads_paper(thing, start, m(SIXTY), {**paper, place: other}), False)
        self.assertIs(reads_paper(NET, "a", m(0),
                                  {**paper_of(NET, "a", m(0)), "b": ((10 ** 3000, 10 ** 3000 - 1), "x")}), False)

    def test_any_size(self):
        many = {"".join(letters): (m(4), "x") for letters in itertools.product("abcdefghij", repeat=4)}
        self.assertIs(reads_paper(NET, "a", m(0), {**many, **paper_of(NET, "a", m(0))}), False)
        self.assertIs(reads_paper(NET, "a", m(0), {**many, "a": (m(0), "")}), False)

    def test_some_papers(self):
        chance = random.Random(67)
        read, not_read = 0, 0
        for thing, start, t in asked(67, 40):
            for at in range(6):
                paper = some_change(chance, thing, paper_of(thing, start, m(t)), 1)
                told = plain_reads(thing, start, t, paper)
                read, not_read = read + told, not_read + (not told)
                self.assertIs(reads_paper(thing, start, m(t), paper), told, (thing, start, t, paper))
        self.assertGreater(min(read, not_read), 100)


class AsItWas(unittest.TestCase):
    def ask(self, thing, start, t):
        paper = paper_of(thing, start, m(t))
        told = [paper, reads_paper(thing, start, m(t), paper)]
        for goal in names_in(thing):
            way = way_to(thing, start, goal, m(t))
            told.append((soonest(thing, start, goal, m(t)), way, way and ridden(thing, way, m(t))))
        return told

    def test_what_is_handed_in_stays(self):
        for thing, start, t in asked(68, 15):
            before, order = copy.deepcopy(thing), list(thing[2])
            self.ask(thing, start, t)
            self.assertEqual(thing, before)
            self.assertEqual(list(thing[2]), order)
        paper = {"a": [m(0), [""]], "b": {"x": [1]}}
        before = copy.deepcopy(paper)
        self.assertIs(reads_paper(NET, "a", m(0), paper), False)
        self.assertEqual(paper, before)

    def test_asked_again(self):
        for thing, start, t in asked(69, 15):
            told = self.ask(thing, start, t)
            self.assertEqual(self.ask(copy.deepcopy(thing), start, t), told)
            self.assertEqual(self.ask(turned(thing), start, t), told)

    def test_the_paper_is_the_askers_own(self):
        told = paper_of(NET, "a", m(0))
        told["b"] = (m(1), "zz")
        del told["c"]
        self.assertEqual(paper_of(NET, "a", m(0)), pairs(a="0", b="4 x", c="6 y", d="11 v"))

    def test_what_is_done_later_has_no_bearing(self):
        thing = copy.deepcopy(NET)
        paper = paper_of(thing, "a", m(0))
        del thing[2]["y"]
        self.assertEqual(paper, pairs(a="0", b="4 x", c="6 y", d="11 v"))
        self.assertEqual(soonest(thing, "a", "c", m(0)), m(9))
        self.assertIs(reads_paper(thing, "a", m(0), paper), False)
        thing[2]["y"] = ("b", "c", row("0 20 2 22"))
        self.assertIs(reads_paper(thing, "a", m(0), paper), True)


if __name__ == "__main__":
    unittest.main()
