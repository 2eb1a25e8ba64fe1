import copy
import itertools
import random
import unittest
from fractions import Fraction

from hourstairs.alltimes import along, reads_stretches, stairs_from, stretches
from hourstairs.soonest import soonest
from hourstairs.stairs import is_stair, last, staying
from plain import NO_MOMENTS, around, m, m_or_none, moments_of, plain_coming, row
from plainnets import ODDS, names_in, net, plain_comings, plain_end, some_nets, turned, ways_of

# From a to c: by z up to 1, by x and y up to 6, by z up to 8; w leads back, v on to d.
NET = net(20, "a", "x a b: 2 6 3 7", "y b c: 0 20 1 21", "z a c: 0 8 3 11", "w c a: 0 20 1 21", "v c d: 0 5 1 6")
# Ties of no riding time lead round: a to b and back, b to c and back.
STILL = net(9, "", "p a b: 0 9 0 9", "q b a: 0 9 0 9", "r b c: 0 9 0 9", "s c b: 0 9 0 9", "t c d: 0 9 1 10")
# Two ways that are best at all moments.
ALIKE = net(9, "", "x a b: 0 9 1 10", "y a b: 0 9 1 10", "z a b: 0 9 2 10", "v b c: 0 9 9 9")
# At 0 alone the first is best, and behind it the second.
NOUGHT = net(9, "", "x a b: 0 0 1 1; 0 9 6 11", "y a b: 0 9 2 10")
NETS = [NET, STILL, ALIKE, NOUGHT, net(0, ""), net(0, "a", "x a b: 0 0 4 4"), net(9, "a", "x a b:")]


def parted(text):
    """Stretches of a text such as `1 z; 6 x y`."""
    words = [part.split() for part in text.split(";") if part.strip()]
    return tuple((m(part[0]), tuple(part[1:])) for part in words)


def moments_for(thing, start, goal, pairs):
    """Moments at and around all ends of what is told, of the goal's stair and of the stairs along the ways."""
    told = {Fraction(0), Fraction(*thing[0]), Fraction(*thing[0]) + 1}
    for pieces in [stairs_from(thing, start).get(goal, ()), pairs] + [along(thing, way) for end, way in pairs]:
        told |= set(moments_of(pieces)) | {Fraction(*piece[0]) for piece in pieces}
    return around(told)


def plain_reads(thing, start, goal, pairs):
    """Whether pairs of moments and ways of the net are stretches, at all moments that matter one by one."""
    ways = [way for end, way in pairs]
    ends = [Fraction(*end) for end, way in pairs]
    if ends != sorted(set(ends)) or any(one == other for one, other in zip(ways, ways[1:])):
        return False
    if any(dict(ways_of(thing, start, len(way))).get(way) != goal for way in ways):
        return False
    for t in moments_for(thing, start, goal, pairs):
        here = [way for end, way in zip(ends, ways) if t <= end][:1]
        come = soonest(thing, start, goal, m(t)) if t <= Fraction(*thing[0]) else None
        if come != m_or_none(plain_end(thing, here[0], t) if here else None):
            return False
    return True


class StairsFrom(unittest.TestCase):
    def test_by_hand(self):
        self.assertEqual(stairs_from(NET, "a"), {
            "a": staying(m(20)), "b": row("2 3 3; 6 3 7"), "c": row("1 3 4; 2 4 4; 6 4 8; 8 9 11"),
            "d": row("1 4 5; 2 5 5; 3 5 6")})
        self.assertEqual(stairs_from(NET, "d"), {"d": staying(m(20))})
        self.assertEqual(stairs_from(NET, "zz"), {"zz": staying(m(20))})
        self.assertEqual(stairs_from(STILL, "c"), {
            "a": staying(m(9)), "b": staying(m(9)), "c": staying(m(9)), "d": row("9 1 10")})
        self.assertEqual(stairs_from(NOUGHT, "a"), {"a": staying(m(9)), "b": row("0 1 1; 9 2 10")})
        self.assertEqual(stairs_from(net(0, ""), "a"), {"a": row("0 0 0")})
        self.assertEqual(stairs_from(net(0, "a", "x a b: 0 0 4 4"), "a"), {"a": row("0 0 0"), "b": row("0 4 4")})

    def test_just_the_places_that_one_comes_to(self):
        lacking = 0
        for thing in some_nets(71, 60) + NETS:
            for start in names_in(thing) + ["zz"]:
                stairs = stairs_from(thing, start)
                self.assertIs(type(stairs), dict)
                # Who comes at some moment comes at 0, too.
                self.assertEqual(sorted(stairs), sorted(plain_comings(thing, start, Fraction(0))))
                self.assertEqual(stairs[start], ((thing[0], m(0), thing[0]),))
                lacking += any(place not in stairs for place in names_in(thing))
        self.assertGreater(lacking, 30)

    def test_right_and_lean(self):
        for thing in some_nets(72, 80) + NETS:
            for start in names_in(thing):
                for stair in stairs_from(thing, start).values():
                    self.assertIs(is_stair(stair), True)
                    self.assertLessEqual(Fraction(*last(stair)), Fraction(*thing[0]))

    def test_what_asking_one_moment_tells(self):
        many = 0
        for thing in some_nets(73, 60) + NETS:
            for start in names_in(thing):
                for goal, stair in stairs_from(thing, start).items():
                    many += len(stair) > 3
                    for t in moments_of(stair):
                        come = soonest(thing, start, goal, m(t))
                        if goal == start and t > Fraction(*thing[0]):
                            come = None
                        self.assertEqual(m_or_none(plain_coming(stair, t)), come, (thing, start, goal, t))
        self.assertGreater(many, 50)

    def test_a_larger_net(self):
        for thing in some_nets(74, 5, 9, 10):
            for goal, stair in stairs_from(thing, "a").items():
                for t in [Fraction(at, 4) for at in range(120)]:
                    self.assertEqual(m_or_none(plain_coming(stair, t)), soonest(thing, "a", goal, m(t)))

    def test_ways_through_all_nine_places(self):
        chain = [f"{name} {a} {b}: 0 90 1 91" for name, a, b in zip("klmnopqr", "abcdefgh", "bcdefghi")]
        thing = net(90, "", *reversed(chain), "s a i: 0 90 20 110", "t i a: 0 90 0 90")
        told = stairs_from(thing, "a")
        self.assertEqual(sorted(told), list("abcdefghi"))
        self.assertEqual(told["i"], row("83 8 91; 90 103 110"))
        self.assertEqual(stretches(thing, "a", "i"), parted("83 k l m n o p q r; 90 s"))
        self.assertEqual(stairs_from(thing, "i")["h"], row("84 7 91"))

    def test_many_figures(self):
        prime = 999999999989
        thing = net(prime, "", f"x a b: 0 {prime}/7 1/{prime} {prime}/3",
                    f"y b c: 0 {prime}/2 {prime}/999999999961 {prime}/2",
                    f"z c d: 0 {prime} {prime}/999999999937 {prime}")
        for goal, stair in stairs_from(thing, "a").items():
            self.assertIs(is_stair(stair), True)
            for t in moments_of(stair)[:-2]:
                self.assertEqual(m(plain_coming(stair, t)), soonest(thing, "a", goal, m(t)))


class Along(unittest.TestCase):
    def test_the_way_of_no_ties(self):
        for thing in NETS:
            self.assertEqual(along(thing, ()), staying(thing[0]))

    def test_by_hand(self):
        for way, told in [("x", "2 3 3; 6 3 7"), ("x y", "2 4 4; 6 4 8"), ("z", "8 3 11"), ("z v", "2 4 6"),
                          ("x y v", "2 5 5; 3 5 6"),
                          ("x y w", "2 5 5; 6 5 9"), ("z w x", "2 5 7")]:
            self.assertEqual(along(NET, tuple(way.split())), row(told), way)
        self.assertEqual(along(net(9, "", "x a b:"), ("x",)), ())
        self.assertEqual(along(net(9, "", "x a b: 0 9 5 14", "y b c: 0 4 5 9"), ("x", "y")), ())

    def test_a_way_that_comes_to_a_place_twice(self):
        self.assertEqual(along(STILL, tuple("pqprsr")), staying(m(9)))
        self.assertEqual(along(STILL, tuple("pqprsrt")), row("9 1 10"))
        self.assertEqual(along(NET, ("z", "w", "x", "y")), row("2 6 8"))

    def test_some_ways(self):
        chance = random.Random(75)
        several = 0
        for thing in some_nets(75, 40):
            ways = [way for start in names_in(thing) for way, place in ways_of(thing, start, 5)]
            for way in chance.sample(ways, min(len(ways), 12)):
                stair = along(thing, way)
                self.assertIs(is_stair(stair), True)
                several += len(way) > 1 and len(stair) > 1
                # Who stays is there at moments behind the end, too, but not by this stair.
                for t in [t for t in moments_of(stair) + [Fraction(at) for at in range(30)] if t <= 30]:
                    self.assertEqual(plain_coming(stair, t), plain_end(thing, way, t), (thing, way, t))
        self.assertGreater(several, 20)


class Stretches(unittest.TestCase):
    def test_by_hand(self):
        told = stretches(NET, "a", "c")
        self.assertEqual(told, parted("1 z; 6 x y; 8 z"))
        self.assertEqual(stretches(NOUGHT, "a", "b"), parted("0 x; 9 y"))
        self.assertEqual(stretches(NET, "a", "b"), parted("6 x"))

    def test_where_one_never_comes(self):
        for thing, start, goal in [(NET, "d", "a"), (NET, "a", "zz"), (NET, "zz", "a"),
                                   (net(9, "a", "x a b:"), "a", "b"),
                                   (net(9, "", "x a b: 0 9 5 14", "y b c: 0 4 5 9"), "a", "c")]:
            self.assertEqual(stretches(thing, start, goal), ())
            self.assertIs(reads_stretches(thing, start, goal, ()), True)

    def test_the_start_itself(self):
        for thing in NETS:
            for start in names_in(thing) + ["zz"]:
                self.assertEqual(stretches(thing, start, start), ((thing[0], ()),))
                self.assertIs(reads_stretches(thing, start, start, ((thing[0], ()),)), True)

    def test_some_nets(self):
        several = 0
        for thing in some_nets(76, 100) + NETS:
            for start, goal in itertools.product(names_in(thing), repeat=2):
                told = stretches(thing, start, goal)
                several += len(told) > 1
                self.assert_stretches(thing, start, goal, told)
        self.assertGreater(several, 30)

    def assert_stretches(self, thing, start, goal, told):
        self.assertIs(type(told), tuple)
        self.assertTrue(all(type(pair) is tuple and type(pair[1]) is tuple for pair in told))
        self.assertTrue(plain_reads(thing, start, goal, told), (thing, start, goal))
        self.assertIs(reads_stretches(thing, start, goal, told), True)
        stair = stairs_from(thing, start).get(goal, ())
        self.assertEqual(told[-1][0] if told else None, last(stair))

    def test_larger_nets(self):
        for thing in some_nets(77, 15, 9, 10):
            for goal in names_in(thing):
                self.assertIs(reads_stretches(thing, "a", goal, stretches(thing, "a", goal)), True)


class ReadsStretches(unittest.TestCase):
    def assert_reads(self, told, thing, start, goal, *texts):
        for text in texts:
            pairs = parted(text) if isinstance(text, str) else text
            self.assertIs(reads_stretches(thing, start, goal, pairs), told, pairs)

    def test_read(self):
        self.assert_reads(True, NET, "a", "c", "1 z; 6 x y; 8 z")
        self.assert_reads(True, NOUGHT, "a", "b", "0 x; 9 y")
        self.assert_reads(True, ALIKE, "a", "b", "9 x", "9 y", "4 x; 9 y", "4 y; 9 x", "0 x; 9 y",
                          "1/2 x; 2/3 y; 5 x; 9 y")
        self.assert_reads(True, STILL, "a", "d", "9 p r t", "0 p r t; 9 p q p r t")

    def test_ends(self):
        self.assert_reads(False, NET, "a", "c", "", "1 z; 6 x y", "1 z; 6 x y; 9 z", "1 z; 6 x y; 7 z",
                          "1 z; 6 x y; 20 z",
                          "6 x y; 8 z", "1 z; 8 z", "8 z", "1 z", "1 z; 6 x y; 8000001/1000000 z",
                          "1 z; 6 x y; 7999999/1000000 z")
        self.assert_reads(False, ALIKE, "a", "b", "4 x; 4 y; 9 x", "5 x; 4 y; 9 x", "4 x; 9 y; 9 x", "0 x; 0 y; 9 x",
                          "9 x; 4 y",
                          "9 x; 9 y", "10 x", "8 x", "4 x; 8 y", "4 x; 10 y", "0 x")

    def test_neighbours(self):
        self.assert_reads(False, ALIKE, "a", "b", "4 x; 9 x", "4 y; 9 y", "0 x; 9 x", "2 x; 4 y; 9 y", "2 x; 4 x; 9 y")
        self.assert_reads(True, ALIKE, "a", "b", "4 x; 9 y", "2 x; 4 y; 9 x")
        self.assert_reads(False, NET, "a", "c", "1/2 z; 1 z; 6 x y; 8 z", "1 z; 3 x y; 6 x y; 8 z")
        self.assert_reads(False, NET, "a", "a", "5; 20")

    def test_comings(self):
        self.assert_reads(False, NET, "a", "c", "1/2 z; 6 x y; 8 z", "2 z; 6 x y; 8 z", "6 x y; 8 z", "8 x y",
                          "1 z; 8 x y",
                          "1 x y; 6 z; 8 x y", "1000001/1000000 z; 6 x y; 8 z", "999999/1000000 z; 6 x y; 8 z",
                          "0 x y; 1 z; 6 x y; 8 z")
        self.assert_reads(False, NET, "a", "c", "1 z; 5 x y; 8 z", "1 z; 7 x y; 8 z", "1 z; 2 x y; 3 z; 6 x y; 8 z")
        self.assert_reads(False, NOUGHT, "a", "b", "9 y", "9 x", "0 y; 9 x", "1 x; 9 y", "1/1000000 x; 9 y",
                          "0 x; 8 y; 9 x")
        self.assert_reads(False, ALIKE, "a", "b", "9 z", "4 x; 9 z", "0 z; 9 x", "0 x; 9 z", "4 x; 5 z; 9 y",
                          "8999999/1000000 z; 9 x")

    def test_comings_at_an_end_alone(self):
        thing = net(9, "", "x a b: 0 8 5 13", "y a b: 0 4 6 9; 4 8 10 13")
        self.assert_reads(True, thing, "a", "b", "8 x")
        self.assert_reads(False, thing, "a", "b", "4 y; 8 x", "4 x; 8 y", "0 y; 8 x", "8 y")

    def test_one_stretch_parted_in_two(self):
        thing = net(9, "", "x a b: 0 9 1 10", "y a b: 0 5 1 6; 5 9 7 10", "w b c: 0 9 1 10")
        self.assert_reads(False, thing, "a", "b", "4 x; 9 x", "4 x; 9 y", "6 y; 9 x")
        self.assert_reads(True, thing, "a", "b", "4 y; 9 x", "5 y; 9 x", "2 x; 5 y; 9 x")
        self.assert_reads(True, thing, "a", "c", "4 y w; 8 x w", "8 x w")

    def test_ways(self):
        self.assert_reads(False, NET, "a", "c", "1 z; 6 x; 8 z", "1 z; 6 y; 8 z", "1 z; 6 y x; 8 z", "2; 6 x y; 8 z",
                          "1 z; 6; 8 z",
                          "1 z; 6 x z; 8 z", "1 z; 6 x y w; 8 z", "1 z; 6 x y; 8 w", "1 z; 6 x y; 8 zz",
                          "1 z; 6 x zz; 8 z")
        self.assert_reads(False, ALIKE, "a", "b", "9", "4 x; 9", "9 x v", "9 v", "9 x x", "9 q")
        self.assert_reads(False, ALIKE, "b", "a", "9 x", "9", "9 x y")
        self.assert_reads(False, NET, "zz", "a", "20", "20 x")
        self.assert_reads(False, NET, "a", "zz", "20", "20 x", "6 x")

    def test_never(self):
        for thing, start, goal in [(NET, "d", "a"), (NET, "a", "zz"), (net(9, "a", "x a b:"), "a", "b")]:
            self.assert_reads(True, thing, start, goal, ())
            self.assert_reads(False, thing, start, goal, "9", "20", "9 x", "0", "0 x", "20 x y")
        self.assert_reads(False, NET, "a", "a", ())

    def test_ways_that_come_to_a_place_twice(self):
        self.assert_reads(True, STILL, "a", "c", "9 p r", "9 p q p r", "9 p r s r", "4 p r; 9 p r s r",
                          "0 p q p q p r; 9 p r")
        self.assert_reads(True, STILL, "a", "d", "9 p r s r t", "9 p q p r s q p r t")
        # Round by way of c one comes, at some moments, just in time for the ride that is taken anyway.
        thing = net(9, "b", "x a b: 0 9 1 10", "y b c: 0 9 1 10", "z c b: 0 9 1 10", "w b d: 5 5 6 6")
        self.assert_reads(True, thing, "a", "d", "4 x w", "2 x y z w; 4 x w", "1 x w; 2 x y z w; 4 x w")
        self.assert_reads(False, thing, "a", "d", "4 x y z w", "3 x y z w; 4 x w", "2000001/1000000 x y z w; 4 x w")

    def test_the_start_itself(self):
        self.assert_reads(True, STILL, "a", "a", "9", "9 p q", "4; 9 p q", "4 p q; 9", "4 p q; 9 p r s q",
                          "0; 9 p q p q")
        self.assert_reads(False, STILL, "a", "a", "8", "8 p q", "4; 9", "9 p", "4; 9 p", "9 q", "9 q p", "0", "10",
                          "10 p q")
        self.assert_reads(False, NET, "a", "a", "20 z w", "6 z w; 20", "0; 20 z w")
        part = net(9, "", "p a b: 0 9 0 9", "q b a: 0 4 0 4; 4 9 5 9")
        self.assert_reads(True, part, "a", "a", "4 p q; 9", "9", "2; 4 p q; 9")
        self.assert_reads(False, part, "a", "a", "9 p q", "5 p q; 9", "4000001/1000000 p q; 9", "8; 9 p q")
        self.assert_reads(True, STILL, "zz", "zz", "9")

    def test_things_that_are_no_pairs(self):
        good = parted("1 z; 6 x y; 8 z")
        for thing in ODDS + [list(good[1]), good[1] + ((),), good[1][:1], good[1][::-1], (good[1],), good[1][0],
                             good[1][1],
                             {m(6): ("x", "y")}, "ab", b"ab", [m(6), ("x", "y")], (m(6), "x", "y")]:
            self.assert_reads(False, NET, "a", "c", (good[0], thing, good[2]), (thing,), (thing, thing),
                              good + (thing,), (thing,) + good)

    def test_things_that_are_no_moments(self):
        good = parted("1 z; 6 x y; 8 z")
        for thing in NO_MOMENTS + ODDS:
            self.assert_reads(False, NET, "a", "c", ((thing, ("z",)),), good[:2] + ((thing, ("z",)),))
            self.assert_reads(False, NET, "a", "c", (good[0], (thing, ("x", "y")), good[2]))
        one = net(1, "", "x a b: 0 1 1 2")
        self.assert_reads(True, one, "a", "b", ((m(1), ("x",)),))
        self.assert_reads(False, one, "a", "b", (((1, True), ("x",)),), (((True, 1), ("x",)),), (((2, 2), ("x",)),),
                          (([1, 1], ("x",)),))

    def test_things_that_are_no_ways(self):
        for thing in ODDS + ["z", ["z"], {"z": 1}, b"z", "xy", [["x", "y"]], (("z",),), ["x", "y"]]:
            self.assert_reads(False, NET, "a", "c", ((m(8), thing),),
                              ((m(1), thing), (m(6), ("x", "y")), (m(8), ("z",))),
                              ((m(1), ("z",)), (m(6), thing), (m(8), ("z",))),
                              ((m(1), ("z",)), (m(6), ("x", "y")), (m(8), thing)))

    def test_names_that_are_none_of_the_net(self):
        for thing in ODDS + ["Z", "z ", ["z"], {"z": 1}, ("z",), b"z", "a", "c"]:
            if thing == "x":
                continue
            self.assert_reads(False, NET, "a", "c", ((m(8), (thing,)),), ((m(8), ("z", thing)),), ((m(8), (thing, "z")),),
                              ((m(1), ("z",)), (m(6), (thing, "y")), (m(8), ("z",))),
                              ((m(1), ("z",)), (m(6), ("x", thing)), (m(8), ("z",))))
        self.assert_reads(False, net(9, "a"), "a", "a", ((m(9), ([],)),), ((m(9), ({},)),))

    def test_any_size(self):
        self.assert_reads(True, STILL, "a", "c", ((m(9), ("p", "q") * 2000 + ("p", "r")),))
        self.assert_reads(False, STILL, "a", "c", ((m(9), ("p", "q") * 2000 + ("p",)),))
        self.assert_reads(False, NET, "a", "a", ((m(20), ("z", "w") * 2000),))
        many = tuple((m(Fraction(9 * at, 1000)), ("xy"[at % 2],)) for at in range(1001))
        self.assert_reads(True, ALIKE, "a", "b", many)
        self.assert_reads(False, ALIKE, "a", "b", many[:-1], many[:500] + many[501:], many + many)
        self.assert_reads(False, ALIKE, "a", "b", (((10 ** 3000, 10 ** 3000 + 1), ("x",)),))
        self.assert_reads(True, ALIKE, "a", "b", (((10 ** 600, 10 ** 600 + 1), ("x",)), (m(9), ("y",))))

    def test_some_stretches(self):
        chance = random.Random(78)
        read, not_read = 0, 0
        for thing in some_nets(78, 120):
            start, goal = chance.choice(names_in(thing)), chance.choice(names_in(thing))
            told = stretches(thing, start, goal)
            if told == ():
                continue
            for at in range(6):
                pairs = self.some_change(chance, thing, start, goal, told)
                wanted = plain_reads(thing, start, goal, pairs)
                read, not_read = read + wanted, not_read + (not wanted)
                self.assertIs(reads_stretches(thing, start, goal, pairs), wanted, (thing, start, goal, pairs))
        self.assertGreater(min(read, not_read), 50)

    def some_change(self, chance, thing, start, goal, told):
        ways = [way for way, place in ways_of(thing, start, 5) if place == goal]
        corners = sorted({piece[0] for way in ways for piece in along(thing, way)} | {m(0)} | {pair[0] for pair in told})
        at = chance.randrange(len(told))
        end, way = told[at]
        if chance.random() < 0.4:
            return told[:at] + ((chance.choice(corners), chance.choice(ways)), (end, way)) + told[at + 1:]
        other = (chance.choice([end, end, chance.choice(corners)]), chance.choice(ways))
        return told[:at] + (other,) + told[at + 1:]


class AsItWas(unittest.TestCase):
    def ask(self, thing):
        told = []
        for start in names_in(thing):
            told.append(stairs_from(thing, start))
            for goal in names_in(thing):
                pairs = stretches(thing, start, goal)
                told.append((pairs, reads_stretches(thing, start, goal, pairs),
                             [along(thing, way) for end, way in pairs]))
        return told

    def test_what_is_handed_in_stays_and_asked_again(self):
        for thing in some_nets(79, 20) + NETS:
            before, order = copy.deepcopy(thing), list(thing[2])
            told = self.ask(thing)
            self.assertEqual((thing, list(thing[2])), (before, order))
            self.assertEqual(self.ask(before), told)
            self.assertEqual(self.ask(turned(thing)), told)
        pairs = ([m(2), ["z"]], (m(6), ["x", {"y": []}]))
        before = copy.deepcopy(pairs)
        self.assertIs(reads_stretches(NET, "a", "c", pairs), False)
        self.assertEqual(pairs, before)

    def test_the_dict_is_the_askers_own(self):
        told = stairs_from(NET, "a")
        before = copy.deepcopy(told)
        told["b"] = ()
        del told["c"]
        self.assertEqual(stairs_from(NET, "a"), before)

    def test_what_is_done_later_has_no_bearing(self):
        thing = copy.deepcopy(NET)
        stairs, pairs = stairs_from(thing, "a"), stretches(thing, "a", "c")
        del thing[2]["x"]
        self.assertEqual(stairs["c"], row("1 3 4; 2 4 4; 6 4 8; 8 9 11"))
        self.assertEqual(pairs, parted("1 z; 6 x y; 8 z"))
        self.assertEqual(stairs_from(thing, "a")["c"], row("8 3 11"))
        self.assertIs(reads_stretches(thing, "a", "c", pairs), False)
        self.assertIs(reads_stretches(thing, "a", "c", parted("8 z")), True)


if __name__ == "__main__":
    unittest.main()
