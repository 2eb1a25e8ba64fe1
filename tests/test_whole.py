"""The promise over the whole: what the modules tell of one net is one and the same."""
import importlib
import inspect
import itertools
import random
import unittest
from fractions import Fraction

from hourstairs.alltimes import along, reads_stretches, stairs_from, stretches
from hourstairs.backwards import leaving_paper, leavings, reads_leavings
from hourstairs.days import days
from hourstairs.joining import lesser, then
from hourstairs.keeping import Keeper, joined, kept
from hourstairs.nets import stairs_of
from hourstairs.nettexts import net_text, read_net
from hourstairs.questions import answer, read_question
from hourstairs.soonest import paper_of, reads_paper, ridden, soonest, way_to
from hourstairs.stairs import coming
from hourstairs.wishes import fewest, layers, quickest
from plain import TINY, m, m_or_none, some_rides
from plainnets import names_in, net, plain_comings, some_moments, some_nets, some_tie_rides

INTERFACE = {
    "fractions": "is_fraction 1, fraction 2, plus 2, less 2, times 2, over 2, is_below 2, fraction_text 1, "
                 "read_fraction 1",
    "stairs": "is_row 1, is_stair 1, lean 1, coming 2, last 1, latest 2, staying 1",
    "stairtexts": "stair_text 1, read_stair 1",
    "rides": "is_rides 1, offer 2, set_out 3, stair_of 2",
    "joining": "then 2, lesser 2, met 2",
    "nets": "is_net 1, places_of 1, stairs_of 1",
    "nettexts": "net_text 1, read_net 1",
    "soonest": "ridden 3, soonest 4, way_to 4, paper_of 3, reads_paper 4",
    "alltimes": "stairs_from 2, along 2, stretches 3, reads_stretches 4",
    "backwards": "leavings 3, leaving_paper 3, reads_leavings 4",
    "wishes": "layers 4, fewest 4, without 2, quickest 5",
    "keeping": "kept 2, joined 3, leaning 3, Keeper 2",
    "days": "days 3",
    "questions": "is_question 1, question_text 1, read_question 1, answer 2",
}


def ends_of(thing):
    """Moments at and around those at which rides begin and end."""
    told = {Fraction(*part) for a, b, rides in thing[2].values() for ride in rides for part in ride[:2]}
    return sorted(told | {moment + by for moment in told for by in (TINY, Fraction(1, 3))})


def last_row(rows, t):
    """The coming of what was ridden from t on, None where it could not be."""
    return None if rows is None else rows[-1][2] if rows else m(t)


class Interface(unittest.TestCase):
    def test_names_and_numbers_of_arguments(self):
        for module, text in INTERFACE.items():
            found = importlib.import_module("hourstairs." + module)
            for name, many in [part.split() for part in text.split(", ")]:
                self.assertEqual(len(inspect.signature(getattr(found, name)).parameters), int(many), name)
        for name, many in [("net", 0), ("stairs", 0), ("change", 2)]:
            self.assertEqual(len(inspect.signature(getattr(Keeper, name)).parameters), many + 1, name)


class OneComing(unittest.TestCase):
    def asked(self, seed, many):
        chance = random.Random(seed)
        for thing in some_nets(seed, many, 4, 8):
            moments = [t for t in ends_of(thing) if t <= 30]
            moments = chance.sample(moments, min(len(moments), 4)) + some_moments(chance, 2) + [Fraction(0), Fraction(30)]
            for start in names_in(thing):
                yield thing, start, [t for t in moments if t <= 30]

    def test_all_tell_one_coming(self):
        came, came_not = 0, 0
        for thing, start, moments in self.asked(131, 30):
            stairs = stairs_from(thing, start)
            parts = {goal: stretches(thing, start, goal) for goal in names_in(thing)}
            again = read_net(net_text(thing))
            for t, goal in itertools.product(moments, names_in(thing)):
                told = set(self.comings(thing, start, goal, t, stairs, parts[goal]))
                told.add(soonest(again, start, goal, m(t)))
                self.assertEqual(len(told), 1, (thing, start, goal, t, told))
                came, came_not = came + (None not in told), came_not + (None in told)
        self.assertGreater(min(came, came_not), 200)

    def comings(self, thing, start, goal, t, stairs, parts):
        """The coming from the start at t to the goal, by all that tells it."""
        yield m_or_none(plain_comings(thing, start, t).get(goal))
        yield soonest(thing, start, goal, m(t))
        yield coming(stairs.get(goal, ()), m(t))
        yield paper_of(thing, start, m(t)).get(goal, (None, ""))[0]
        for way in (way_to(thing, start, goal, m(t)), fewest(thing, start, goal, m(t))):
            yield None if way is None else last_row(ridden(thing, way, m(t)), t)
            yield None if way is None else coming(along(thing, way), m(t))
        yield layers(thing, start, m(t), len(names_in(thing)))[-1].get(goal)
        here = [way for end, way in parts if t <= Fraction(*end)][:1]
        yield last_row(ridden(thing, here[0], m(t)), t) if here else None
        yield answer(thing, ("at", start, goal, m(t), ()))
        told = quickest(thing, start, goal, m(t), m(t))
        yield told and told[1]

    def test_papers_and_stretches_show_it(self):
        for thing, start, moments in self.asked(132, 20):
            for t in moments:
                self.assertIs(reads_paper(thing, start, m(t), paper_of(thing, start, m(t))), True)
                self.assertIs(reads_leavings(thing, start, m(t), leaving_paper(thing, start, m(t))), True)
            for goal in names_in(thing):
                self.assertIs(reads_stretches(thing, start, goal, stretches(thing, start, goal)), True)

    def test_one_comes_by_a_moment_just_if_one_leaves_no_later(self):
        for thing, start, moments in self.asked(133, 25):
            for t, goal in itertools.product(moments, names_in(thing)):
                come = soonest(thing, start, goal, m(t))
                by_end = leavings(thing, goal, m(100)).get(start)
                if come is None:
                    self.assertTrue(by_end is None or Fraction(*by_end) < t)
                    continue
                self.assertGreaterEqual(Fraction(*leavings(thing, goal, come)[start]), t)
                if Fraction(*come) > 0:
                    sooner = leavings(thing, goal, m(Fraction(*come) - min(TINY, Fraction(*come)))).get(start)
                    self.assertTrue(sooner is None or Fraction(*sooner) < t)

    def test_kept_stairs_joined(self):
        chance = random.Random(134)
        for thing, start, moments in self.asked(134, 40):
            chosen = tuple(sorted({start} | set(chance.sample(names_in(thing),
                                                              chance.randint(1, len(names_in(thing)))))))
            told = joined(thing[0], kept(thing, chosen), start)
            for t, goal in itertools.product(moments, chosen):
                self.assertEqual(coming(told.get(goal, ()), m(t)), soonest(thing, start, goal, m(t)))

    def test_kept_stairs_behind_changes(self):
        chance = random.Random(135)
        for thing in some_nets(135, 30, 4, 8):
            keeper = Keeper(thing, tuple(names_in(thing))[:3])
            for at in range(4):
                tie = chance.choice(sorted(thing[2]))
                keeper.change(tie, some_tie_rides(chance, thing[2][tie][0] in thing[1]))
                self.assertEqual(keeper.stairs(), kept(keeper.net(), tuple(names_in(thing))[:3]))
                start = names_in(thing)[0]
                whole = stairs_from(keeper.net(), start)
                told = joined(keeper.net()[0], keeper.stairs(), start)
                self.assertEqual(told, {place: whole[place] for place in names_in(thing)[:3] if place in whole})

    def test_what_is_asked_a_day_later_comes_a_day_later(self):
        chance = random.Random(136)
        came = 0
        for at in range(20):
            ties = {name: tuple(chance.sample("abc", 2)) + (some_rides(chance, 2),) for name in "xyz"}
            thing = (m(20), ("a", "b", "c"), ties)
            some, more = days(thing, m(20), 2), days(thing, m(20), 3)
            for t, (start, goal) in itertools.product(some_moments(chance, 4), itertools.permutations("abc", 2)):
                come = answer(some, ("at", start, goal, m(t), ()))
                later = answer(more, ("at", start, goal, m(t + 20), ()))
                self.assertEqual(later, come and m(Fraction(*come) + 20))
                came += come is not None
                self.assertEqual(coming(stairs_from(more, start).get(goal, ()), m(t + 20)), later)
        self.assertGreater(came, 50)

    def test_put_together_in_any_order(self):
        for thing in some_nets(137, 40, 3, 6):
            stairs = [stair for name, stair in sorted(stairs_of(thing).items())][:3]
            for one, two, three in itertools.permutations((stairs * 3)[:3]):
                self.assertEqual(then(then(one, two), three), then(one, then(two, three)))
                self.assertEqual(lesser(lesser(one, two), three), lesser(three, lesser(two, one)))


class WholeSizes(unittest.TestCase):
    """Nine places, ten ties of eight rides, twelve figures, five days: all modules at once."""

    def large(self):
        chance = random.Random(138)
        places = "abcdefghi"
        ties = {}
        for name, (a, b) in zip("klmnopqrst", list(zip(places, places[1:])) + [("i", "a"), ("c", "g")]):
            rides = []
            for at in range(8):
                first, by = at * 10 + self.part(chance), 1 + self.part(chance)
                rides.append((m(first), m(first + 3 * by), m(first + by), m(first + 5 * by)))
            ties[name] = (a, b, tuple(rides))
        return (m(90), tuple(places), ties)

    def part(self, chance):
        return Fraction(chance.randrange(10 ** 8), 10 ** 8 + chance.randrange(10 ** 8))

    def test_one_coming(self):
        thing = days(self.large(), m(90), 5)
        self.assertEqual(len(thing[2]["k"][2]), 40)
        self.assertEqual(read_net(net_text(thing)), thing)
        stairs = stairs_from(thing, "a")
        self.assertEqual(sorted(stairs), list("abcdefghi"))
        parts = stretches(thing, "a", "i")
        self.assertIs(reads_stretches(thing, "a", "i", parts), True)
        for t in [Fraction(0), Fraction(1, 3), Fraction(100), Fraction(355, 2), Fraction(400)]:
            come = soonest(thing, "a", "i", m(t))
            self.assertTrue(coming(stairs["i"], m(t)) == come)
            self.assertTrue(last_row(ridden(thing, fewest(thing, "a", "i", m(t)), m(t)), t) == come)
            here = [way for end, way in parts if t <= Fraction(*end)][0]
            self.assertTrue(last_row(ridden(thing, here, m(t)), t) == come)
            self.assertLessEqual(t, Fraction(*leavings(thing, "i", come)["a"]))
        chosen = ("a", "c", "e", "g", "i")
        told = joined(thing[0], kept(thing, chosen), "a")
        self.assertTrue(told == {place: stairs[place] for place in chosen})
        self.assertTrue(answer(thing, read_question("all a i without d")) != ())


class TheHour(unittest.TestCase):
    def test_by_hand(self):
        """A morning: by foot at any moment, by a bus on the hour, over a ferry that one cannot wait for."""
        thing = net(12, "home", "bus home quay: 7 7 15/2 15/2; 8 8 17/2 17/2; 9 9 19/2 19/2",
                    "foot home quay: 0 12 3/2 27/2",
                    "ferry quay isle: 0 8 1 9; 8 12 9 25/2")
        self.assertEqual(soonest(thing, "home", "isle", m(5)), m("15/2"))
        self.assertEqual(soonest(thing, "home", "isle", m("13/2")), m("17/2"))
        self.assertEqual(way_to(thing, "home", "isle", m("13/2")), ("bus", "ferry"))
        self.assertEqual(answer(thing, read_question("by home isle 17/2")), m(7))
        self.assertEqual(answer(thing, read_question("quick home isle 5 12")), (m(9), m("165/16")))


if __name__ == "__main__":
    unittest.main()
