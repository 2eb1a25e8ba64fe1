import copy
import itertools
import random
import unittest
from fractions import Fraction

from hourstairs.errors import HourError, NotRight, Overtaken
from hourstairs.nets import is_net, places_of, stairs_of
from hourstairs.rides import stair_of
from plain import NO_MOMENTS, m, plain_offer, row, some_rides

NO_NAMES = ["", "A", "aB", "abcdefghi", "a b", "a1", "1", "a\n", " a", "a_b", "a-b", "\u00e9", "\u03b1", "\uff41", None,
            True, False, 0, 5, b"a", ("a",), (), object(), m(5)]
NAMES = ["a", "z", "ab", "abcdefgh", "zzzzzzzz", "end", "waits"]
NO_TUPLES = [None, True, False, 0, 5, "", "abc", b"abc", [], {}, {"a": 1}, set(), range(3), object(), len]


def net(end=9, waits=("a",), ties=None):
    told = {"x": ("a", "b", row("3 5 4 8")), "y": ("b", "a", row("0 9 2 9"))} if ties is None else ties
    return (m(end), waits, told)


class IsNet(unittest.TestCase):
    def test_nets(self):
        for thing in [net(), net(waits=()), net(waits=("a", "b", "c")), net(ties={}), net(0, (), {}),
                      net(ties={"x": ("a", "b", ())}), net("17/2", (), {"x": ("p", "q", row("0 17/2 9 9"))}),
                      net(5, (), {"x": ("p", "q", row("5 5 9 9; 0 0 0 0"))}),
                      net(ties={"a": ("a", "b", ()), "b": ("a", "b", ())})]:
            self.assertIs(is_net(thing), True, thing)

    def test_a_net_that_is_not_right(self):
        self.assertIs(is_net(net(waits=())), True)
        self.assertRaises(NotRight, stairs_of, net(waits=()))

    def test_names(self):
        for name in NAMES:
            other = "b" if name == "a" else "a"
            self.assertIs(is_net(net(waits=(name,))), True, name)
            self.assertIs(is_net(net(ties={name: ("a", "b", ())})), True, name)
            self.assertIs(is_net(net(ties={"x": (name, other, ())})), True, name)
            self.assertIs(is_net(net(ties={"x": (other, name, ())})), True, name)

    def test_end_is_no_moment(self):
        for thing in NO_MOMENTS:
            self.assertIs(is_net((thing, ("a",), {})), False, thing)
            self.assertIs(is_net((thing,) + net()[1:]), False, thing)

    def test_waits_unsorted_or_alike(self):
        for waits in [("b", "a"), ("a", "c", "b"), ("a", "a"), ("a", "b", "b"), ("ab", "a"), ("b", "a", "b")]:
            self.assertIs(is_net(net(waits=waits)), False, waits)
        for waits in [("a", "ab"), ("ab", "b"), ("a", "b", "c", "d", "e", "f", "g", "h", "i")]:
            self.assertIs(is_net(net(waits=waits)), True, waits)

    def test_waits_with_no_names(self):
        for thing in NO_NAMES:
            for waits in [(thing,), ("a", thing), (thing, "zz"), (thing, thing)]:
                self.assertIs(is_net(net(waits=waits)), False, waits)
        self.assertIs(is_net(net(waits=(["a"],))), False)

    def test_waits_no_tuple(self):
        for thing in [["a"], [], "a", "", None, {"a"}, {"a": 1}, {}, True, 5, b"a"]:
            self.assertIs(is_net(net(waits=thing)), False, thing)

    def test_ties_no_dict(self):
        tie = ("a", "b", row("3 5 4 8"))
        for thing in [(), [], None, True, 5, "", "x", ("x",), (("x", tie),), [("x", tie)], {"x"}, set()]:
            self.assertIs(is_net((m(9), ("a",), thing)), False, thing)

    def test_a_ties_name_is_no_name(self):
        for thing in NO_NAMES:
            self.assertIs(is_net(net(ties={thing: ("a", "b", ())})), False, thing)
            self.assertIs(is_net(net(ties={"x": ("a", "b", ()), thing: ("a", "b", ())})), False, thing)
            self.assertIs(is_net(net(ties={thing: ("a", "b", ()), "x": ("a", "b", ())})), False, thing)

    def assert_no_tie(self, tie):
        for ties in [{"x": tie}, {"w": ("a", "b", ()), "x": tie}, {"x": tie, "w": ("a", "b", ())}]:
            self.assertIs(is_net(net(ties=ties)), False, tie)

    def test_a_tie_of_other_numbers(self):
        rides = row("3 5 4 8")
        for tie in [("a", "b"), ("a", "b", rides, rides), ("a", "b", rides, None), ("a",), (), ("a", rides), (rides,)]:
            self.assert_no_tie(tie)

    def test_a_tie_that_is_no_tuple(self):
        for tie in [["a", "b", ()], None, True, 5, "abc", "", {}, {"a": 1, "b": 2, "c": 3}, b"abc", object()]:
            self.assert_no_tie(tie)

    def test_from_a_place_to_itself(self):
        self.assert_no_tie(("a", "a", row("3 5 4 8")))
        self.assert_no_tie(("abc", "abc", ()))

    def test_places_that_are_no_names(self):
        for thing in NO_NAMES + [["a"], {}]:
            self.assert_no_tie((thing, "b", ()))
            self.assert_no_tie(("b", thing, ()))

    def test_rides_that_are_none(self):
        for rides in [None, True, 5, "", [], {}, list(row("3 5 4 8")), row("3 5 4 8")[0], row("5 3 6 6"),
                      row("3 5 2 8"), row("3 5 4 4"), row("3 3 4 5"), row("3 5 4"), row("3 5 4 8 9"), (None,), ((),),
                      (list(row("3 5 4 8")[0]),), row("3 5 4 8") + ("x",), ((3, 5, 4, 8),),
                      (((True, 1), m(5), m(4), m(8)),), ((m(3), m(5), (8, 2), m(8)),)]:
            self.assert_no_tie(("a", "b", rides))

    def test_a_last_above_end(self):
        for end, text, told in [(9, "0 9 9 20", True), (9, "0 10 9 20", False), (9, "3 5 4 8; 10 10 11 11", False),
                                (9, "10 10 11 11; 3 5 4 8", False), ("17/2", "0 17/2 9 9", True),
                                ("17/2", "0 9 9 9", False), (9, "0 9000001/1000000 9 20", False), (0, "0 0 5 5", True),
                                (0, "0 1 5 5", False), ("10/3", "10/3 10/3 5 5", True), ("10/3", "7/2 7/2 5 5", False)]:
            self.assertIs(is_net(net(end, (), {"x": ("a", "b", row(text))})), told, (end, text))

    def test_no_tuples_and_other_numbers(self):
        for thing in NO_TUPLES + [list(net()), net()[:2], net() + (None,), net() + ({},), (), (net(),), m(9)]:
            self.assertIs(is_net(thing), False, thing)

    def test_things_in_another_order(self):
        for thing in itertools.permutations(net()):
            self.assertIs(is_net(thing), thing == net())


class Places(unittest.TestCase):
    def test_places(self):
        for thing, told in [(net(), ["a", "b"]), (net(waits=("c", "d")), ["a", "b", "c", "d"]),
                            (net(waits=()), ["a", "b"]), (net(ties={}), ["a"]), (net(0, (), {}), []),
                            (net(waits=("aa", "b"), ties={"x": ("zz", "b", ()), "y": ("m", "zz", ())}),
                             ["aa", "b", "m", "zz"]),
                            (net(waits=("q",), ties={"x": ("b", "a", ())}), ["a", "b", "q"])]:
            self.assertEqual(places_of(thing), told)
            self.assertIs(type(places_of(thing)), list)

    def test_ties_names_are_no_places(self):
        self.assertEqual(places_of(net(waits=(), ties={"tie": ("a", "b", ())})), ["a", "b"])

    def test_the_list_is_the_askers_own(self):
        thing = net()
        told = places_of(thing)
        told.append("zz")
        told[0] = "q"
        self.assertEqual(places_of(thing), ["a", "b"])
        self.assertEqual(thing, net())


class Stairs(unittest.TestCase):
    def test_with_and_without_waiting(self):
        rides, steady = row("3 5 4 8"), row("0 9 2 9")
        thing = net(9, ("a",), {"x": ("a", "b", rides), "y": ("b", "a", steady), "z": ("a", "c", steady)})
        self.assertEqual(stairs_of(thing), {"x": row("3 4 4; 5 4 8"), "y": row("9 2 9"), "z": row("9 2 9")})
        self.assertIs(type(stairs_of(thing)), dict)

    def test_waiting_is_let_at_the_first_place_alone(self):
        rides = row("3 5 4 8")
        self.assertEqual(stairs_of(net(9, ("a",), {"x": ("a", "b", rides)})), {"x": row("3 4 4; 5 4 8")})
        self.assertRaises(NotRight, stairs_of, net(9, ("b",), {"x": ("a", "b", rides)}))
        self.assertRaises(NotRight, stairs_of, net(9, ("x",), {"x": ("a", "b", rides)}))
        self.assertRaises(NotRight, stairs_of, net(9, ("aa", "b"), {"x": ("a", "b", rides)}))

    def test_without_rides(self):
        self.assertEqual(stairs_of(net(ties={"x": ("a", "b", ()), "y": ("b", "a", ())})), {"x": (), "y": ()})
        self.assertEqual(stairs_of(net(ties={})), {})

    def refusal(self, thing):
        with self.assertRaises(NotRight) as caught:
            stairs_of(thing)
        self.assertNotIsInstance(caught.exception, Overtaken)
        self.assertIsInstance(caught.exception, HourError)
        return (caught.exception.name, caught.exception.first, caught.exception.second)

    def assert_refused(self, thing, name):
        told, first, second = self.refusal(thing)
        self.assertEqual(told, name)
        self.assertEqual([first, second], [m(Fraction(*first)), m(Fraction(*second))])
        self.assertLess(Fraction(*first), Fraction(*second))
        offers = [plain_offer(thing[2][name][2], Fraction(*moment)) for moment in (first, second)]
        self.assertIsNotNone(offers[1])
        self.assertTrue(offers[0] is None or offers[0] > offers[1])
        self.assertEqual(self.refusal(copy.deepcopy(thing)), (told, first, second))

    def test_the_first_by_sorted_names(self):
        gap, falling, steady = row("3 5 4 8"), row("0 5 9 6"), row("0 9 2 9")
        for names in itertools.permutations(["w", "xa", "x", "z"]):
            kinds = {"w": ("b", "c", steady), "xa": ("b", "a", gap), "x": ("c", "a", falling), "z": ("c", "b", gap)}
            self.assert_refused(net(9, (), {name: kinds[name] for name in names}), "x")
            self.assert_refused(net(9, ("c",), {name: kinds[name] for name in names}), "xa")
            self.assert_refused(net(9, ("b",), {name: kinds[name] for name in names}), "x")
            told = stairs_of(net(9, ("b", "c"), {name: kinds[name] for name in names}))
            self.assertEqual(told, {name: stair_of(kinds[name][2], True) for name in names})

    def test_some_nets(self):
        chance = random.Random(55)
        refused = 0
        for at in range(150):
            thing = self.some_net(chance)
            self.assertIs(is_net(thing), True)
            failing = [name for name in sorted(thing[2]) if self.lacks_stair(thing, name)]
            if failing:
                refused += 1
                self.assert_refused(thing, failing[0])
            else:
                told = stairs_of(thing)
                self.assertEqual(told, {name: stair_of(rides, a in thing[1]) for name, (a, b, rides) in thing[2].items()})
        self.assertGreater(refused, 30)
        self.assertLess(refused, 120)

    def some_net(self, chance):
        places = ["a", "b", "c", "d"]
        ties = {}
        for name in chance.sample(["k", "l", "m", "n", "o"], chance.randint(1, 4)):
            a, b = chance.sample(places, 2)
            ties[name] = (a, b, chance.choice([(), row("0 9 2 9"), some_rides(chance, 3)]))
        return net(40, tuple(sorted(chance.sample(places, chance.randint(1, 4)))), ties)

    def lacks_stair(self, thing, name):
        a, b, rides = thing[2][name]
        try:
            stair_of(rides, a in thing[1])
        except Overtaken:
            return True
        return False


class AsItWas(unittest.TestCase):
    def test_what_is_handed_in_stays(self):
        for thing in [net(), net(waits=()), net(waits=("b", "a")), [m(9), ["a"], {"x": [1]}], net(ties={"x": ["a"]})]:
            before = copy.deepcopy(thing)
            told = is_net(thing)
            if told:
                places_of(thing)
                self.stairs_or_refusal(thing)
            self.assertEqual(thing, before)
            self.assertIs(is_net(thing), told)

    def stairs_or_refusal(self, thing):
        try:
            return stairs_of(thing)
        except NotRight as error:
            return (error.name, error.first, error.second)

    def test_order_of_ties_stays(self):
        thing = net(ties={"z": ("a", "b", ()), "c": ("a", "b", ())})
        stairs_of(thing)
        self.assertEqual(list(thing[2]), ["z", "c"])

    def test_what_is_done_later_has_no_bearing(self):
        ties = {"x": ("a", "b", row("3 5 4 8"))}
        thing = net(9, ("a",), ties)
        places, stairs = places_of(thing), stairs_of(thing)
        ties["y"] = ("b", "c", row("0 9 2 9"))
        del ties["x"]
        self.assertEqual((places, stairs), (["a", "b"], {"x": row("3 4 4; 5 4 8")}))
        self.assertEqual((places_of(thing), stairs_of(thing)), (["a", "b", "c"], {"y": row("9 2 9")}))

    def test_the_dict_is_the_askers_own(self):
        thing = net()
        told = stairs_of(thing)
        before = dict(told)
        told["x"] = ()
        told["q"] = ()
        self.assertEqual(stairs_of(thing), before)
        self.assertEqual(thing, net())

    def test_asked_again(self):
        for thing in [net(), net(waits=()), net(waits=("b",))]:
            self.assertEqual(self.stairs_or_refusal(thing), self.stairs_or_refusal(copy.deepcopy(thing)))


if __name__ == "__main__":
    unittest.main()
