import copy
import itertools
import random
import unittest
from fractions import Fraction

from hourstairs.alltimes import stairs_from
from hourstairs.errors import HourError, NoTie, NotRight
from hourstairs.keeping import Keeper, joined, kept, leaning
from hourstairs.nets import is_net, stairs_of
from hourstairs.stairs import is_stair, staying
from plain import m, moments_of, plain_coming, plain_offer, row
from plainnets import names_in, net, plain_end, some_net, some_nets, some_tie_rides, turned

# Between a, c and e by way of b and d; v leads round them all, w back, u aside.
NET = net(20, "a c e", "x a b: 0 20 1 21", "y b c: 0 20 1 21", "z c d: 0 20 1 21", "s d e: 0 20 1 21",
          "v a e: 0 20 9 29",
          "w e a: 0 20 0 20", "t b d: 0 20 4 24", "u b f: 0 20 1 21", "r c e:")
CHOSEN = ("a", "c", "e")


def inner_places(thing, way):
    return [thing[2][name][1] for name in way[:-1]]


def free_ways(thing, chosen, a, b, most):
    """All ways of at most so many ties from a to b with no inner place chosen; they may come to a place twice."""
    told, newest = [], [((), a)]
    for at in range(most):
        newest = [(way + (name,), end) for way, place in newest if way == () or place not in chosen
                  for name, (start, end, rides) in thing[2].items() if start == place]
        told += [way for way, place in newest if place == b]
    return told


def plain_leaning(thing, chosen, tie):
    most = 2 * len(names_in(thing))
    return sorted((a, b) for a, b in itertools.permutations(chosen, 2)
                  if any(tie in way for way in free_ways(thing, chosen, a, b, most)))


def some_chosen(chance, thing):
    names = names_in(thing) + ["zz"]
    return tuple(sorted(chance.sample(names, chance.randint(0, min(5, len(names))))))


def asked(seed, many, most_places=5):
    chance = random.Random(seed)
    nets = [some_net(chance, most_places, 9) for at in range(many)]
    return [(thing, some_chosen(chance, thing)) for thing in nets]


class Kept(unittest.TestCase):
    def test_by_hand(self):
        self.assertEqual(kept(NET, CHOSEN), {
            ("a", "c"): row("19 2 21"), ("a", "e"): row("15 6 21; 20 24 29"), ("c", "e"): row("19 2 21"),
            ("e", "a"): staying(m(20))})
        self.assertEqual(kept(NET, ("a", "e")), {("a", "e"): stairs_from(NET, "a")["e"], ("e", "a"): staying(m(20))})
        self.assertEqual(kept(net(9, "", "x a b: 0 9 1 10", "y b c: 0 9 1 10"), ("a", "b", "c")),
                         {("a", "b"): row("9 1 10"), ("b", "c"): row("9 1 10")})
        self.assertEqual(kept(net(9, "", "x a b: 0 9 1 10", "y b c: 0 9 1 10"), ("a", "c")),
                         {("a", "c"): row("8 2 10")})

    def test_not_through_chosen_places(self):
        """By way of c one would come sooner: over it no kept stair leads, unless it is not chosen."""
        thing = net(9, "", "x a c: 0 9 1 10", "y c b: 0 9 1 10", "z a b: 0 9 5 14")
        self.assertEqual(kept(thing, ("a", "b", "c"))[("a", "b")], row("9 5 14"))
        self.assertEqual(kept(thing, ("a", "b"))[("a", "b")], row("8 2 10; 9 13 14"))

    def test_names_that_are_no_places(self):
        for chosen in [("q", "zz"), ("zz",), ("a", "zz"), ("tie", "x")]:
            self.assertEqual(kept(NET, chosen), {})
        self.assertEqual(kept(NET, ("a", "e", "zz")), kept(NET, ("a", "e")))

    def test_none_chosen(self):
        self.assertEqual(kept(NET, ()), {})
        self.assertEqual(kept(NET, ("a",)), {})
        self.assertEqual(kept(net(0, ""), ()), {})

    def test_pairs_of_never_lack(self):
        self.assertEqual(sorted(kept(NET, CHOSEN)), [("a", "c"), ("a", "e"), ("c", "e"), ("e", "a")])
        self.assertEqual(kept(net(9, "", "x a b:", "y b a: 0 9 0 9"), ("a", "b")), {("b", "a"): staying(m(9))})
        self.assertEqual(kept(net(9, "", "x a b: 0 9 5 14", "y b c: 0 4 5 9"), ("a", "c")), {})

    def test_against_ways(self):
        some, lacking = 0, 0
        for thing, chosen in asked(101, 60, 4):
            told = kept(thing, chosen)
            self.assertIs(type(told), dict)
            for a, b in itertools.permutations(chosen, 2):
                ways = free_ways(thing, chosen, a, b, 4)
                some, lacking = some + ((a, b) in told), lacking + ((a, b) not in told)
                self.assertNotEqual(told.get((a, b)), ())
                stair = told.get((a, b), ())
                self.assertIs(is_stair(stair), True)
                for t in moments_of(stair) + [Fraction(at) for at in range(0, 31, 3)]:
                    comings = [come for come in [plain_end(thing, way, t) for way in ways] if come is not None]
                    self.assertEqual(plain_coming(stair, t), min(comings, default=None), (thing, chosen, a, b, t))
            self.assertLessEqual(set(told), set(itertools.permutations(chosen, 2)))
        self.assertGreater(min(some, lacking), 50)


class Joined(unittest.TestCase):
    def test_the_nets_own_stairs(self):
        many = 0
        for thing, chosen in asked(102, 80) + [(NET, CHOSEN), (NET, ("a", "e"))]:
            for start in chosen:
                told = joined(thing[0], kept(thing, chosen), start)
                self.assertIs(type(told), dict)
                whole = stairs_from(thing, start)
                self.assertEqual(told, {place: whole[place] for place in whole if place in chosen},
                                 (thing, chosen, start))
                many += len(told) > 2
        self.assertGreater(many, 20)

    def test_put_together_by_hand(self):
        hand = {("a", "b"): row("5 3 8; 9 8 9"), ("b", "c"): row("5 5 8; 9 11 11"), ("a", "c"): row("9 9 10"),
                ("c", "d"): ()}
        self.assertEqual(joined(m(9), hand, "a"), {
            "a": staying(m(9)), "b": row("5 3 8; 9 8 9"), "c": row("2 34/5 8; 9 83/9 10")})
        self.assertEqual(joined(m(9), hand, "b"), {"b": staying(m(9)), "c": row("5 5 8; 9 11 11")})
        self.assertEqual(joined(m(12), hand, "b")["b"], staying(m(12)))
        self.assertEqual(joined(m(9), hand, "c"), {"c": staying(m(9))})

    def test_a_start_in_no_pair(self):
        for hand in [{}, {("a", "b"): row("9 0 9")}]:
            self.assertEqual(joined(m(9), hand, "zz"), {"zz": staying(m(9))})
        self.assertEqual(joined(m(9), {("a", "b"): row("9 0 9")}, "b"), {"b": staying(m(9))})
        self.assertEqual(joined(m(0), {}, "a"), {"a": row("0 0 0")})

    def test_over_several_pairs_and_round(self):
        hand = {("a", "b"): row("9 1 10"), ("b", "c"): row("9 1 10"), ("c", "a"): row("9 0 9"),
                ("c", "d"): row("9 0 9")}
        self.assertEqual(joined(m(9), hand, "a"), {
            "a": staying(m(9)), "b": row("9 1 10"), "c": row("8 2 10"), "d": row("7 2 9")})
        for pairs in itertools.permutations(hand):
            self.assertEqual(joined(m(9), {pair: hand[pair] for pair in pairs}, "b"), joined(m(9), hand, "b"))


class Leaning(unittest.TestCase):
    def test_by_hand(self):
        for tie, told in [("x", [("a", "c"), ("a", "e")]), ("y", [("a", "c")]), ("z", [("c", "e")]),
                          ("w", [("e", "a")]),
                          ("s", [("a", "e"), ("c", "e")]), ("v", [("a", "e")]), ("t", [("a", "e")]), ("u", []),
                          ("r", [("c", "e")])]:
            self.assertEqual(leaning(NET, CHOSEN, tie), told, tie)
            self.assertEqual(leaning(NET, (), tie), [])
            self.assertEqual(leaning(NET, ("q", "zz"), tie), [])

    def test_a_tie_that_is_not_there(self):
        """No way has it."""
        for tie in ["q", "zz", "a"]:
            self.assertEqual(leaning(NET, CHOSEN, tie), [])

    def test_whether_it_can_be_ridden_or_not(self):
        thing = net(9, "", "x a b:", "y b c: 0 9 9 9", "z c d: 0 1 1 1")
        for tie in "xyz":
            self.assertEqual(leaning(thing, ("a", "d"), tie), [("a", "d")])
        self.assertEqual(kept(thing, ("a", "d")), {})

    def test_by_ways_that_come_to_a_place_twice(self):
        """No way that comes to no place twice has the ties to b and back; others do."""
        thing = net(9, "", "x a m: 0 9 1 10", "y m b: 0 9 1 10", "z b m: 0 9 1 10", "w m c: 0 9 1 10")
        for tie in "xyzw":
            self.assertEqual(leaning(thing, ("a", "c"), tie), [("a", "c")])
        self.assertEqual(leaning(thing, ("a", "b", "c"), "y"), [("a", "b")])
        self.assertEqual(leaning(thing, ("a", "b", "c"), "z"), [("b", "c")])
        self.assertEqual(leaning(thing, ("a", "b", "c"), "x"), [("a", "b"), ("a", "c")])
        # From m back to m there is a way, but a pair is of two unlike places.
        self.assertEqual(leaning(thing, ("b", "m"), "y"), [("m", "b")])
        self.assertEqual(leaning(thing, ("m",), "y"), [])

    def test_against_all_ways(self):
        some, none = 0, 0
        for thing, chosen in asked(103, 600):
            for tie in sorted(thing[2]):
                told = leaning(thing, chosen, tie)
                self.assertIs(type(told), list)
                self.assertTrue(all(type(pair) is tuple for pair in told))
                self.assertEqual(told, plain_leaning(thing, chosen, tie), (thing, chosen, tie))
                some, none = some + (len(told) > 1), none + (told == [])
        self.assertGreater(min(some, none), 20)


class Changes(unittest.TestCase):
    def assert_kept(self, keeper, thing, chosen):
        self.assertEqual(keeper.net(), thing)
        self.assertIs(is_net(keeper.net()), True)
        self.assertEqual(keeper.stairs(), kept(thing, chosen))

    def with_rides(self, thing, tie, rides):
        end, waits, ties = thing
        return (end, waits, {**ties, tie: (ties[tie][0], ties[tie][1], rides)})

    def test_of_no_change(self):
        for thing, chosen in asked(104, 10) + [(NET, CHOSEN), (NET, ()), (net(0, ""), ())]:
            self.assert_kept(Keeper(thing, chosen), thing, chosen)

    def test_by_hand(self):
        keeper = Keeper(NET, CHOSEN)
        before = keeper.stairs()
        self.assertEqual(keeper.change("y", row("0 20 3 23")), [("a", "c")])
        self.assertEqual(keeper.net(), self.with_rides(NET, "y", row("0 20 3 23")))
        self.assertEqual(keeper.stairs(), {**before, ("a", "c"): row("19 4 23")})
        self.assertEqual(keeper.change("y", ()), [("a", "c")])
        self.assertEqual(keeper.stairs(), {pair: before[pair] for pair in before if pair != ("a", "c")})
        self.assertEqual(keeper.change("u", ()), [])
        self.assertEqual(keeper.change("y", NET[2]["y"][2]), [("a", "c")])
        self.assertEqual(keeper.stairs(), before)
        self.assertEqual(keeper.net(), self.with_rides(NET, "u", ()))
        self.assertEqual(keeper.change("x", NET[2]["x"][2]), [("a", "c"), ("a", "e")])
        self.assertEqual(keeper.stairs(), before)

    def test_some_changes(self):
        chance = random.Random(105)
        touched = 0
        for thing, chosen in asked(105, 40):
            keeper = Keeper(thing, chosen)
            for at in range(5):
                tie = chance.choice(sorted(thing[2]))
                before = keeper.stairs()
                rides = some_tie_rides(chance, thing[2][tie][0] in thing[1])
                pairs = keeper.change(tie, rides)
                thing = self.with_rides(thing, tie, rides)
                self.assertIs(type(pairs), list)
                self.assertEqual(pairs, leaning(thing, chosen, tie))
                self.assert_kept(keeper, thing, chosen)
                for pair in itertools.permutations(chosen, 2):
                    if pair not in pairs:
                        self.assertEqual(keeper.stairs().get(pair), before.get(pair))
                touched += keeper.stairs() != before
        self.assertGreater(touched, 20)

    def assert_refused(self, keeper, kind, tie, rides):
        net_before, before = copy.deepcopy((keeper.net(), keeper.stairs()))
        with self.assertRaises(kind) as caught:
            keeper.change(tie, rides)
        self.assertEqual(caught.exception.name, tie)
        self.assertIsInstance(caught.exception, HourError)
        self.assertEqual((keeper.net(), keeper.stairs()), (net_before, before))
        self.assertEqual(list(keeper.net()[2]), list(net_before[2]))
        return caught.exception

    def test_a_tie_that_is_not_there(self):
        keeper = Keeper(NET, CHOSEN)
        for tie in ["q", "zz", "a", "xx"]:
            self.assert_refused(keeper, NoTie, tie, row("0 20 1 21"))
            self.assert_refused(keeper, NoTie, tie, ())
            # Not right either, in whatever place: but the tie is looked for first.
            self.assert_refused(keeper, NoTie, tie, row("3 5 4 8"))
        self.assert_refused(Keeper(net(0, ""), ()), NoTie, "x", ())

    def test_rides_that_are_not_right(self):
        keeper = Keeper(NET, CHOSEN)
        for tie, text in [("y", "3 5 4 8"), ("y", "0 5 9 6"), ("s", "0 2 3 3; 4 5 6 6"), ("u", "1/2 1/2 1 1")]:
            error = self.assert_refused(keeper, NotRight, tie, row(text))
            first, second = Fraction(*error.first), Fraction(*error.second)
            offers = [plain_offer(row(text), moment) for moment in (first, second)]
            self.assertTrue(first < second and offers[1] is not None and (offers[0] is None or offers[0] > offers[1]))
            again = self.assert_refused(keeper, NotRight, tie, row(text))
            self.assertEqual((again.first, again.second), (error.first, error.second))
        # Where waiting is let, they are right.
        for tie, pairs in [("z", [("c", "e")]), ("x", [("a", "c"), ("a", "e")]), ("w", [("e", "a")])]:
            self.assertEqual(keeper.change(tie, row("3 5 4 8")), pairs)

    def test_behind_a_refusal_changes_go_on(self):
        keeper = Keeper(NET, CHOSEN)
        self.assert_refused(keeper, NotRight, "y", row("3 5 4 8"))
        self.assertEqual(keeper.change("y", row("0 20 3 23")), [("a", "c")])
        self.assert_refused(keeper, NotRight, "y", row("3 5 4 8"))
        self.assert_kept(keeper, self.with_rides(NET, "y", row("0 20 3 23")), CHOSEN)

    def test_two_keepers_of_one_net(self):
        thing = copy.deepcopy(NET)
        one, other = Keeper(thing, CHOSEN), Keeper(thing, ("a", "e"))
        one.change("y", ())
        self.assert_kept(other, NET, ("a", "e"))
        other.change("s", row("0 20 2 22"))
        self.assert_kept(one, self.with_rides(NET, "y", ()), CHOSEN)
        self.assert_kept(other, self.with_rides(NET, "s", row("0 20 2 22")), ("a", "e"))
        self.assertEqual(thing, NET)

    def test_a_keeper_of_what_a_keeper_told(self):
        one = Keeper(NET, CHOSEN)
        other = Keeper(one.net(), CHOSEN)
        other.change("y", ())
        self.assert_kept(one, NET, CHOSEN)


class AsItWas(unittest.TestCase):
    def test_what_is_done_later_to_the_net_has_no_bearing(self):
        thing = copy.deepcopy(NET)
        keeper = Keeper(thing, CHOSEN)
        thing[2]["y"] = ("b", "c", ())
        del thing[2]["x"]
        self.assertEqual((keeper.net(), keeper.stairs()), (NET, kept(NET, CHOSEN)))
        self.assertEqual(keeper.change("x", row("0 20 2 22")), [("a", "c"), ("a", "e")])
        self.assertEqual(thing[2]["y"], ("b", "c", ()))
        self.assertNotIn("x", thing[2])
        self.assertEqual(keeper.stairs()[("a", "c")], row("18 3 21"))

    def test_what_is_told_is_the_askers_own(self):
        keeper = Keeper(NET, CHOSEN)
        thing, stairs, pairs = keeper.net(), keeper.stairs(), keeper.change("y", row("0 20 3 23"))
        changed = copy.deepcopy((keeper.net(), keeper.stairs()))
        self.assertEqual((thing, stairs), (NET, kept(NET, CHOSEN)))
        for told in [thing, keeper.net()]:
            told[2].clear()
        for told in [stairs, keeper.stairs()]:
            told[("a", "c")] = ()
            told[("q", "q")] = ()
        pairs.append(("q", "q"))
        self.assertEqual((keeper.net(), keeper.stairs()), changed)
        self.assertEqual(keeper.change("y", row("0 20 3 23")), [("a", "c")])

    def ask(self, thing, chosen):
        stairs = kept(thing, chosen)
        told = [stairs, [joined(thing[0], stairs, start) for start in names_in(thing)]]
        return told + [leaning(thing, chosen, tie) for tie in sorted(thing[2])]

    def test_what_is_handed_in_stays_and_asked_again(self):
        for thing, chosen in asked(106, 20) + [(NET, CHOSEN)]:
            before, order = copy.deepcopy(thing), list(thing[2])
            told = self.ask(thing, chosen)
            self.assertEqual((thing, list(thing[2])), (before, order))
            self.assertEqual(self.ask(before, chosen), told)
            self.assertEqual(self.ask(turned(thing), chosen), told)
            stairs = kept(thing, chosen)
            before = copy.deepcopy(stairs)
            joined(thing[0], stairs, "a").clear()
            self.assertEqual((stairs, list(stairs)), (before, list(before)))

    def test_told_dicts_are_the_askers_own(self):
        kept(NET, CHOSEN).clear()
        leaning(NET, CHOSEN, "x").clear()
        self.assertEqual(len(kept(NET, CHOSEN)), 4)
        self.assertEqual(leaning(NET, CHOSEN, "x"), [("a", "c"), ("a", "e")])

    def test_the_nets_of_the_tests_are_right(self):
        for thing in some_nets(107, 20) + [NET]:
            stairs_of(thing)


if __name__ == "__main__":
    unittest.main()
