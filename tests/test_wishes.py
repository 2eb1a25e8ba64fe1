import copy
import itertools
import random
import unittest
from fractions import Fraction

from hourstairs.alltimes import stairs_from
from hourstairs.nets import is_net
from hourstairs.soonest import soonest
from hourstairs.wishes import fewest, layers, quickest, without
from plain import TINY, m, m_or_none, moments_of, row
from plainnets import names_in, net, plain_comings, plain_end, some_moments, some_net, some_nets, turned, ways_of

# To d by v alone, by x and y, or by x, z and w: the more ties the sooner.
NET = net(20, "a", "v a d: 0 20 9 29", "x a b: 0 20 1 21", "y b d: 0 20 5 25", "z b c: 0 20 1 21", "w c d: 0 20 1 21",
          "u d a: 0 20 0 20")
STILL = net(9, "", "p a b: 0 9 0 9", "q b a: 0 9 0 9", "r b c: 0 9 0 9", "s a c: 0 9 0 9", "t c d: 0 9 1 10")
# From a to b: one waits up to 2, then 1 is enough up to 4; behind it there is a jump, and it takes ever less up to 9.
WAVES = net(12, "a", "x a b: 2 4 3 5; 6 9 9 10", "y b c: 0 12 1 13")


def asked(seed, many):
    chance = random.Random(seed)
    told = []
    for at in range(many):
        thing = some_net(chance, 4, 10)
        for t in some_moments(chance, 3) + [Fraction(0), Fraction(31)]:
            told.append((thing, chance.choice(names_in(thing) + ["zz"]), t))
    return told


class Layers(unittest.TestCase):
    def test_by_hand(self):
        wanted = [dict(a=0), dict(a=0, b=1, d=9), dict(a=0, b=1, c=2, d=6), dict(a=0, b=1, c=2, d=3)]
        wanted = [{place: m(t) for place, t in told.items()} for told in wanted]
        for most in range(4):
            self.assertEqual(layers(NET, "a", m(0), most), tuple(wanted[:most + 1]))
        self.assertEqual(layers(NET, "a", m(0), 7), tuple(wanted + wanted[-1:] * 4))

    def test_of_no_ties_the_start_alone(self):
        for thing, start, t in itertools.product([NET, STILL, net(0, "")], ["a", "d", "zz"], [0, 5, 30]):
            self.assertEqual(layers(thing, start, m(t), 0), ({start: m(t)},))

    def test_a_start_that_no_tie_touches(self):
        self.assertEqual(layers(NET, "zz", m(5), 3), ({"zz": m(5)},) * 4)

    def test_behind_the_end(self):
        self.assertEqual(layers(NET, "a", m(21), 2), ({"a": m(21)},) * 3)

    def test_against_all_ways(self):
        sooner = 0
        for thing, start, t in asked(91, 40):
            told = layers(thing, start, m(t), 5)
            self.assertIs(type(told), tuple)
            self.assertEqual(len(told), 6)
            for most, layer in enumerate(told):
                self.assertIs(type(layer), dict)
                wanted = plain_comings(thing, start, t, most)
                self.assertEqual(layer, {place: m(come) for place, come in wanted.items()}, (thing, start, t, most))
            sooner += any(told[5][place] != layer[place] for layer in told[1:] for place in layer)
        self.assertGreater(sooner, 5)

    def test_each_another_dict(self):
        told = layers(STILL, "a", m(3), 7)
        before = copy.deepcopy(told)
        for at, layer in enumerate(told):
            layer["zz"] = m(at)
            del layer["a"]
            self.assertEqual(told[at + 1:], before[at + 1:])
        self.assertEqual([layer["zz"] for layer in told], [m(at) for at in range(8)])
        self.assertEqual(layers(STILL, "a", m(3), 7), before)


class Fewest(unittest.TestCase):
    def test_by_hand(self):
        for thing, start, goal, t, way in [
                (NET, "a", "d", 0, ("x", "z", "w")), (NET, "a", "b", 0, ("x",)), (NET, "b", "d", 0, ("z", "w")),
                (NET, "a", "d", 19, ("x", "y")), (NET, "a", "d", 20, ("v",)), (NET, "a", "d", 21, None),
                (STILL, "a", "c", 3, ("s",)), (STILL, "a", "d", 3, ("s", "t")), (STILL, "d", "a", 3, None),
                (NET, "a", "zz", 0, None), (NET, "zz", "a", 0, None)]:
            self.assertEqual(fewest(thing, start, goal, m(t)), way, (start, goal, t))

    def test_the_start_itself(self):
        for thing, start, t in itertools.product([NET, STILL, net(0, "")], ["a", "d", "zz"], [0, 5, 30]):
            self.assertEqual(fewest(thing, start, start, m(t)), ())

    def test_against_all_ways(self):
        several, fewer = 0, 0
        for thing, start, t in asked(92, 60):
            ways = ways_of(thing, start, 5)
            for goal in names_in(thing) + ["zz"]:
                come = soonest(thing, start, goal, m(t))
                way = fewest(thing, start, goal, m(t))
                if come is None:
                    self.assertIsNone(way)
                    continue
                best = [other for other, place in ways if place == goal
                        and m_or_none(plain_end(thing, other, t)) == come]
                self.assertIn(way, best)
                self.assertEqual(len(way), min(len(other) for other in best))
                several, fewer = several + (len(way) > 1), fewer + any(len(other) > len(way) for other in best)
        self.assertGreater(min(several, fewer), 20)

    def test_as_few_as_the_layers_allow(self):
        for thing, start, t in asked(93, 40):
            told = layers(thing, start, m(t), 5)
            for goal in told[-1]:
                first = [most for most, layer in enumerate(told) if layer.get(goal) == told[-1][goal]][0]
                self.assertEqual(len(fewest(thing, start, goal, m(t))), first)

    def test_fewer_ties_that_come_as_soon(self):
        """The way of more ties is found first, where places are taken by names or by nearness."""
        thing = net(9, "b c z", "x a b: 0 9 1 10", "y b c: 0 9 1 10", "w c z: 5 5 6 6", "v a z: 0 9 6 10",
                    "u b z: 5 5 6 6")
        self.assertEqual(fewest(thing, "a", "z", m(0)), ("v",))
        self.assertEqual(fewest(thing, "a", "z", m(1)), ("x", "u"))
        # At z sooner by more ties, though with one tie, too, one still gets w there.
        late = net(9, "z", "x a b: 0 9 1 10", "y b z: 0 9 1 10", "v a z: 0 9 4 10", "w z d: 5 5 6 6")
        self.assertEqual(fewest(late, "a", "z", m(0)), ("x", "y"))
        way = fewest(late, "a", "d", m(0))
        self.assertEqual(plain_end(late, way, Fraction(0)), 6)
        self.assertEqual(way, ("v", "w"))

    def test_nine_places(self):
        chain = [f"{name} {a} {b}: 0 90 0 90" for name, a, b in zip("klmnopqr", "abcdefgh", "bcdefghi")]
        self.assertEqual(fewest(net(90, "", *chain), "a", "i", m(4)), tuple("klmnopqr"))
        self.assertEqual(fewest(net(90, "", *chain, "s d i: 0 90 0 90"), "a", "i", m(4)), tuple("klms"))


class Without(unittest.TestCase):
    def test_ties_from_and_to(self):
        for places, names in [((), "uvwxyz"), (("a",), "wyz"), (("b",), "uvw"), (("c",), "uvxy"), (("d",), "xz"),
                              (("a", "d"), "z"), (("b", "c"), "uv"), (("a", "b", "c", "d"), ""), (("zz",), "uvwxyz"),
                              (("x", "y"), "uvwxyz"), (("q", "zz"), "uvwxyz"), (("c", "zz"), "uvxy"),
                              (("d", "a"), "z")]:
            told = without(NET, places)
            self.assertEqual(told, (NET[0], NET[1], {name: NET[2][name] for name in names}), places)
            self.assertIs(is_net(told), True)

    def test_the_end_and_waits_stay(self):
        thing = net("17/2", "a b q", "x a b: 0 1 2 3")
        for places in [(), ("a",), ("b",), ("a", "b", "q"), ("q",)]:
            self.assertEqual(without(thing, places)[:2], thing[:2])

    def test_the_net_handed_in_stays(self):
        thing = copy.deepcopy(NET)
        for places in [(), ("a",), ("zz",)]:
            told = without(thing, places)
            told[2].clear()
            told[2]["q"] = ("a", "b", ())
            self.assertEqual(thing, NET)
            self.assertEqual(list(thing[2]), list(NET[2]))
        told = without(thing, ())
        del thing[2]["x"]
        self.assertEqual(told, NET)

    def test_nobody_comes_there(self):
        for thing in some_nets(94, 20):
            left = without(thing, ("b",))
            self.assertEqual(sorted(set(plain_comings(left, "a", Fraction(0))) & {"b"}), [])
            self.assertEqual(soonest(left, "b", "b", m(2)), m(2))


class Quickest(unittest.TestCase):
    def assert_quickest(self, thing, start, goal, first, second, *told):
        wanted = (m(told[0]), m(told[1])) if told else None
        self.assertEqual(quickest(thing, start, goal, m(first), m(second)), wanted, (start, goal, first, second))

    def test_at_ends_and_between(self):
        self.assert_quickest(WAVES, "a", "b", 0, 12, 2, 3)
        self.assert_quickest(WAVES, "a", "b", 0, 1, 1, 3)
        self.assert_quickest(WAVES, "a", "b", 0, "3/2", "3/2", 3)
        self.assert_quickest(WAVES, "a", "b", 3, 12, 3, 4)
        self.assert_quickest(WAVES, "a", "b", "7/2", 12, "7/2", "9/2")
        self.assert_quickest(WAVES, "a", "b", 0, 4, 2, 3)

    def test_jumps(self):
        self.assert_quickest(WAVES, "a", "b", 4, 12, 4, 5)
        self.assert_quickest(WAVES, "a", "b", 4, 8, 4, 5)
        self.assert_quickest(WAVES, "a", "b", "4000001/1000000", 12, 9, 10)
        self.assert_quickest(WAVES, "a", "b", "4000001/1000000", 8, 8, "29/3")
        self.assert_quickest(WAVES, "a", "b", 5, 6, 6, 9)
        self.assert_quickest(WAVES, "a", "b", 4, 5, 4, 5)
        steep = net(9, "", "x a b: 0 3 2 8; 3 9 8 17")
        self.assert_quickest(steep, "a", "b", 0, 9, 0, 2)
        self.assert_quickest(steep, "a", "b", 1, 9, 1, 4)
        self.assert_quickest(steep, "a", "b", 4, 9, 4, "19/2")

    def test_the_first_of_several(self):
        even = net(9, "", "x a b: 0 9 2 11")
        for first, second in [(0, 9), (1, 9), (3, 4), ("7/2", 20)]:
            self.assert_quickest(even, "a", "b", first, second, first, Fraction(first) + 2)
        twice = net(20, "a", "x a b: 3 3 5 5; 7 7 9 9; 12 12 14 14")
        self.assert_quickest(twice, "a", "b", 0, 20, 3, 5)
        self.assert_quickest(twice, "a", "b", 4, 20, 7, 9)
        self.assert_quickest(twice, "a", "b", 8, 11, 11, 14)
        self.assert_quickest(WAVES, "a", "b", 2, 12, 2, 3)

    def test_a_window_of_one_moment(self):
        for t, told in [(0, 3), (2, 3), (3, 4), (4, 5), (5, 9), ("13/2", "55/6"), (9, 10)]:
            self.assert_quickest(WAVES, "a", "b", t, t, t, told)
        self.assert_quickest(WAVES, "a", "b", 10, 10)

    def test_behind_the_end(self):
        self.assert_quickest(WAVES, "a", "b", 13, 15)
        self.assert_quickest(WAVES, "a", "b", "9000001/1000000", 10)
        self.assert_quickest(WAVES, "a", "b", 9, 10 ** 6, 9, 10)
        self.assert_quickest(WAVES, "b", "c", 11, 10 ** 6, 11, 12)

    def test_the_start_itself(self):
        for start, (first, second) in itertools.product(["a", "c", "zz"], [(0, 9), (3, 3), (12, 40), (50, 60)]):
            self.assert_quickest(WAVES, start, start, first, second, first, first)

    def test_where_one_does_not_come(self):
        for start, goal in [("b", "a"), ("c", "a"), ("a", "zz"), ("zz", "a")]:
            self.assert_quickest(WAVES, start, goal, 0, 12)
        self.assert_quickest(WAVES, "a", "c", 10, 12)

    def test_against_many_moments(self):
        chance = random.Random(95)
        some, none, inner = 0, 0, 0
        for thing in some_nets(95, 80):
            start, goal = chance.sample(names_in(thing), 2)
            for at in range(4):
                first, second = sorted(some_moments(chance, 2))
                told = quickest(thing, start, goal, m(first), m(second))
                some, none = some + (told is not None), none + (told is None)
                inner += told is not None and m(first) != told[0] != m(second)
                self.assert_least(thing, start, goal, first, second, told)
        self.assertGreater(min(some, none, inner), 20)

    def assert_least(self, thing, start, goal, first, second, told):
        moments = {first, second} | {first + (second - first) * at / 40 for at in range(41)}
        moments |= set(moments_of(stairs_from(thing, start).get(goal, ())))
        if told is not None:
            self.assertTrue(type(told) is tuple and soonest(thing, start, goal, told[0]) == told[1])
            moments |= {Fraction(*told[0]) - TINY, Fraction(*told[0]) + TINY}
        for t in sorted(moment for moment in moments if first <= moment <= second):
            come = soonest(thing, start, goal, m(t))
            if come is None:
                continue
            self.assertIsNotNone(told)
            best = (Fraction(*told[1]) - Fraction(*told[0]), Fraction(*told[0]))
            self.assertTrue(first <= best[1] <= second)
            self.assertGreaterEqual((Fraction(*come) - t, t), best, (thing, start, goal, first, second))


class AsItWas(unittest.TestCase):
    def ask(self, thing):
        told = []
        for start, goal in itertools.product(names_in(thing), repeat=2):
            told += [layers(thing, start, m(2), 3), fewest(thing, start, goal, m(2)), without(thing, (goal,)),
                     quickest(thing, start, goal, m(1), m(20))]
        return told

    def test_what_is_handed_in_stays_and_asked_again(self):
        for thing in some_nets(96, 25) + [NET, STILL, WAVES]:
            before, order = copy.deepcopy(thing), list(thing[2])
            told = self.ask(thing)
            self.assertEqual((thing, list(thing[2])), (before, order))
            self.assertEqual(self.ask(before), told)
            self.assertEqual(self.ask(turned(thing)), told)

    def test_what_is_done_later_has_no_bearing(self):
        thing = copy.deepcopy(NET)
        told, left = layers(thing, "a", m(0), 3), without(thing, ("c",))
        thing[2]["v"] = ("a", "d", row("0 20 0 20"))
        self.assertEqual(told[3]["d"], m(3))
        self.assertEqual(left[2]["v"], NET[2]["v"])
        self.assertEqual(fewest(thing, "a", "d", m(0)), ("v",))


if __name__ == "__main__":
    unittest.main()
