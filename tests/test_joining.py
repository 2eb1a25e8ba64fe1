import copy
import itertools
import random
import unittest
from fractions import Fraction

from hourstairs.joining import lesser, met, then
from hourstairs.stairs import is_stair, last, latest, lean, staying
from plain import TINY, around, m, moments_of, plain_coming, row, some_row, some_rows

NEVER = ()


def written(text):
    """The stair of a text, which a test would be wrong to write down if it were none."""
    told = row(text)
    assert is_stair(told), text
    return told


A = written("5 3 8; 9 8 9")
B = written("5 5 8; 9 11 11")


def some_stairs():
    return [lean(pieces) for pieces in some_rows()[:150]] + [row("9 0 9"), row("0 0 0"), row("0 4 4"), NEVER]


def pairs():
    chance = random.Random(9)
    stairs = some_stairs()
    told = [(one, chance.choice(stairs)) for one in stairs]
    told += [(lean(some_row(chance, 5)), lean(some_row(chance, 5))) for at in range(300)]
    told += [(lean(some_row(chance, 40)), lean(some_row(chance, 40))) for at in range(4)]
    return told + list(itertools.product([A, B, NEVER, row("0 4 4"), row("0 4 4; 5 6 8"), row("9 0 9")], repeat=2))


def moments_where(stair, value):
    """The moments at which one comes at this, where it is on a straight that rises."""
    told, beginning = [], Fraction(0)
    for piece in stair:
        end, low, high = [Fraction(*part) for part in piece]
        if low <= value <= high and low < high:
            told.append(beginning + (end - beginning) * (value - low) / (high - low))
        beginning = end
    return told


def then_moments(one, other):
    corners = [Fraction(*piece[0]) for piece in one] + [Fraction(0)]
    for piece in other:
        corners += moments_where(one, Fraction(*piece[0]))
    return around(corners)


def crossings(one, other):
    corners = sorted({Fraction(*piece[0]) for piece in one + other} | {Fraction(0)})
    told = []
    for ahead, behind in zip(corners, corners[1:]):
        near = ahead + TINY
        sides = [plain_coming(stair, t) for t in (near, behind) for stair in (one, other)]
        if None not in sides:
            gap, next_gap = sides[0] - sides[1], sides[2] - sides[3]
            if gap * next_gap < 0:
                told.append(near + (behind - near) * gap / (gap - next_gap))
    return told


def both_moments(one, other):
    return around([Fraction(*piece[0]) for piece in one + other] + [Fraction(0)] + crossings(one, other))


def plain_then(one, other, t):
    there = plain_coming(one, t)
    return None if there is None else plain_coming(other, there)


def plain_lesser(one, other, t):
    return min([told for told in (plain_coming(one, t), plain_coming(other, t)) if told is not None], default=None)


class Then(unittest.TestCase):
    def assert_then(self, one, other, told):
        self.assertEqual(then(written(one), written(other)), written(told), (one, other))

    def test_ends_of_both(self):
        self.assertEqual(then(A, B), row("2 34/5 8; 9 11 11"))
        self.assert_then("9 0 9", "2 3 4; 5 5 9; 9 9 11", "2 3 4; 5 5 9; 9 9 11")
        self.assert_then("4 1 9", "2 3 4; 5 5 9; 9 9 11", "1/2 7/2 4; 2 5 9; 4 9 11")

    def test_the_first_comes_at_an_end_of_the_other(self):
        self.assert_then("4 5 9", "5 5 8; 9 11 11", "0 8 8; 4 11 11")
        self.assert_then("4 5 5; 6 9 9", "5 5 8; 9 11 11", "4 8 8; 6 11 11")
        self.assert_then("2 3 5; 8 5 9", "5 5 8; 9 11 11", "2 34/5 8; 8 11 11")
        self.assert_then("0 5 5", "5 5 8; 9 11 11", "0 8 8")
        self.assert_then("0 5 5; 3 6 6", "5 5 8; 9 11 11", "0 8 8; 3 11 11")

    def test_the_first_jumps_over_an_end_of_the_other(self):
        self.assert_then("2 3 4; 6 8 9", "5 5 8; 9 11 11", "2 34/5 37/5; 6 11 11")
        self.assert_then("2 3 4; 6 5 9", "5 5 8; 9 11 11", "2 34/5 37/5; 6 11 11")
        self.assert_then("2 3 4; 6 9 9", "5 5 8; 9 11 11", "2 34/5 37/5; 6 11 11")
        self.assert_then("1 1 1; 2 7 8", "3 4 5; 4 6 6; 5 7 7; 8 8 9", "1 13/3 13/3; 2 26/3 9")

    def test_behind_the_last_of_the_other(self):
        self.assert_then("5 3 8; 9 8 20", "5 5 8; 9 11 11", "2 34/5 8; 16/3 11 11")
        self.assert_then("5 3 8; 9 10 20", "5 5 8; 9 11 11", "2 34/5 8; 5 11 11")
        self.assert_then("5 3 8; 9 9 20", "5 5 8; 9 11 11", "2 34/5 8; 5 11 11")
        self.assert_then("5 9 9; 7 10 10", "5 5 8; 9 11 11", "5 11 11")
        self.assert_then("5 9 20", "5 5 8; 9 11 11", "0 11 11")
        self.assert_then("5 10 20", "5 5 8; 9 11 11", "")
        self.assert_then("0 10 10", "5 5 8; 9 11 11", "")
        self.assert_then("5 0 5", "0 4 4", "0 4 4")
        self.assert_then("5 1 5", "0 4 4", "")

    def test_behind_the_last_of_the_first(self):
        self.assert_then("2 1 2", "5 5 8; 9 11 11", "2 28/5 31/5")
        self.assert_then("0 1 1", "5 5 8; 9 11 11", "0 28/5 28/5")

    def test_never(self):
        for stair in some_stairs():
            self.assertEqual(then(NEVER, stair), NEVER)
            self.assertEqual(then(stair, NEVER), NEVER)

    def test_some_stairs(self):
        many = 0
        for one, other in pairs():
            told = then(one, other)
            many += len(told) > 2
            self.assertIs(is_stair(told), True, (one, other))
            for t in sorted(set(then_moments(one, other) + moments_of(told))):
                self.assertEqual(plain_coming(told, t), plain_then(one, other, t), (one, other, t))
        self.assertGreater(many, 100)

    def test_last_end(self):
        for one, other in pairs():
            told = then(one, other)
            if NEVER in (one, other):
                self.assertIsNone(last(told))
            else:
                self.assertEqual(last(told), latest(one, last(other)), (one, other))

    def test_staying_ahead_and_behind(self):
        for stair in some_stairs():
            for more in (0, "7/2"):
                ahead = m(Fraction(*(last(stair) or m(0))) + Fraction(more))
                behind = m(Fraction(*(stair[-1][2] if stair else m(0))) + Fraction(more))
                self.assertEqual(then(staying(ahead), stair), stair)
                self.assertEqual(then(stair, staying(behind)), stair)

    def test_any_bracketing(self):
        chance = random.Random(12)
        stairs = some_stairs()
        long_ones = 0
        for at in range(300):
            one, two, three = [chance.choice(stairs) for at in range(3)]
            told = then(one, then(two, three))
            long_ones += len(told) > 2
            self.assertEqual(then(then(one, two), three), told, (one, two, three))
        self.assertGreater(long_ones, 20)


class Lesser(unittest.TestCase):
    def assert_lesser(self, one, other, told):
        self.assertEqual(lesser(written(one), written(other)), written(told), (one, other))
        self.assertEqual(lesser(written(other), written(one)), written(told), (other, one))

    def test_ends_of_both(self):
        self.assertEqual(lesser(A, B), A)
        self.assert_lesser("2 3 3; 6 9 9", "4 5 5; 6 8 8", "2 3 3; 4 5 5; 6 8 8")
        self.assert_lesser("2 3 3; 4 9 9; 6 9 10", "4 5 5; 6 12 12", "2 3 3; 4 5 5; 6 9 10")
        self.assert_lesser("1 1 2; 3 4 5", "1 2 3; 3 3 4", "1 1 2; 3 3 4")

    def test_crossing_between_ends(self):
        self.assert_lesser("5 5 10", "5 6 8", "5/3 5 20/3; 5 20/3 8")
        self.assert_lesser("2 5 5; 4 6 8", "4 3 11", "1 3 5; 2 5 5; 4 6 8")
        self.assert_lesser("4 8 8", "4 4 12", "2 4 8; 4 8 8")

    def test_touching(self):
        self.assert_lesser("4 4 8", "4 5 8", "4 4 8")
        self.assert_lesser("4 4 8", "4 4 9", "4 4 8")
        self.assert_lesser("2 5 6; 4 6 8", "2 4 6; 4 6 9", "4 4 8")

    def test_one_ends_ahead_of_the_other(self):
        self.assert_lesser("3 4 4", "9 5 9", "3 4 4; 9 19/3 9")
        self.assert_lesser("3 9 9", "9 5 9", "9 5 9")
        self.assert_lesser("0 4 4", "9 5 9", "0 4 4; 9 5 9")
        self.assert_lesser("0 5 5", "9 5 9", "9 5 9")

    def test_first_end_nought(self):
        self.assert_lesser("0 1 1; 4 5 5", "4 3 6", "0 1 1; 8/3 3 5; 4 5 5")
        self.assert_lesser("0 3 3; 4 5 5", "0 2 2; 4 6 6", "0 2 2; 4 5 5")
        self.assert_lesser("0 3 3", "0 2 2", "0 2 2")

    def test_never(self):
        for stair in some_stairs():
            self.assertEqual(lesser(NEVER, stair), stair)
            self.assertEqual(lesser(stair, NEVER), stair)

    def test_of_one_with_itself(self):
        for stair in some_stairs():
            self.assertEqual(lesser(stair, stair), stair)

    def test_some_stairs(self):
        crossing = 0
        for one, other in pairs():
            told = lesser(one, other)
            crossing += crossings(one, other) != []
            self.assertIs(is_stair(told), True, (one, other))
            self.assertEqual(lesser(other, one), told)
            for t in sorted(set(both_moments(one, other) + moments_of(told))):
                self.assertEqual(plain_coming(told, t), plain_lesser(one, other, t), (one, other, t))
        self.assertGreater(crossing, 50)

    def test_any_bracketing(self):
        chance = random.Random(13)
        stairs = some_stairs()
        for at in range(200):
            one, two, three = [chance.choice(stairs) for at in range(3)]
            self.assertEqual(lesser(lesser(one, two), three), lesser(one, lesser(two, three)))
            self.assertEqual(lesser(then(one, three), then(two, three)), then(lesser(one, two), three))
            self.assertEqual(lesser(then(three, one), then(three, two)), then(three, lesser(one, two)))


class Met(unittest.TestCase):
    def assert_met(self, one, other, *told):
        wanted = tuple((m(end), who) for end, who in told)
        self.assertEqual(met(written(one), written(other)), wanted, (one, other))
        turned = tuple((end, 1 - who) for end, who in wanted)
        self.assertEqual(met(written(other), written(one)), turned, (other, one))

    def test_crossing(self):
        self.assert_met("5 5 10", "5 6 8", ("5/3", 0), (5, 1))
        self.assert_met("4 4 12", "4 8 8", (2, 0), (4, 1))
        self.assert_met("2 5 5; 4 6 8", "4 3 11", (1, 1), (4, 0))

    def test_jumping(self):
        self.assert_met("2 3 3; 6 9 9", "4 5 5; 6 8 8", (2, 0), (6, 1))
        self.assert_met("2 3 3; 6 9 10", "4 5 5; 6 12 12", (2, 0), (4, 1), (6, 0))
        self.assert_met("0 1 1; 4 5 5", "4 3 6", (0, 0), ("8/3", 1), (4, 0))

    def test_touching(self):
        self.assert_met("4 4 8", "4 5 8", (4, 0))
        self.assert_met("4 4 9", "4 4 8", (4, 1))
        self.assert_met("2 5 6; 4 6 9", "2 5 6; 4 6 10", (4, 0))
        self.assert_met("2 4 6; 4 6 9", "2 5 6; 4 6 10", (4, 0))
        self.assert_met("2 4 6; 4 6 10", "2 5 6; 4 6 9", (2, 0), (4, 1))

    def test_one_ends_ahead_of_the_other(self):
        self.assert_met("3 4 4", "9 5 9", (3, 0), (9, 1))
        self.assert_met("3 9 9", "9 5 9", (9, 1))
        self.assert_met("0 4 4", "9 5 9", (0, 0), (9, 1))

    def test_never(self):
        self.assertEqual(met(NEVER, NEVER), ())
        for stair in some_stairs():
            if stair != NEVER:
                self.assertEqual(met(NEVER, stair), ((last(stair), 1),))
                self.assertEqual(met(stair, NEVER), ((last(stair), 0),))

    def test_of_one_with_itself(self):
        for stair in some_stairs():
            told = met(stair, stair)
            self.assert_right(stair, stair, told)
            self.assertEqual(len(told), min(1, len(stair)))

    def test_some_stairs(self):
        many = 0
        for one, other in pairs():
            many += len(met(one, other)) > 2
            self.assert_right(one, other, met(one, other))
        self.assertGreater(many, 50)

    def test_running_together(self):
        """Stairs that are the same for some moments, and part on either side."""
        for text in ["2 3 5; 6 7 9; 8 10 10", "1 3 4; 6 7 9; 8 9 11", "2 3 6; 6 7 9; 7 9 9", "6 4 9; 7 10 10",
                     "3 3 8; 6 8 9; 8 11 12"]:
            for other in ["2 4 5; 6 7 9; 8 9 11", "2 3 4; 6 7 9; 9 9 10", "2 4 4; 6 7 9"]:
                self.assert_right(written(text), written(other), met(written(text), written(other)))
                self.assert_right(written(other), written(text), met(written(other), written(text)))

    def assert_right(self, one, other, told):
        self.assertIs(type(told), tuple)
        ends = [Fraction(*end) for end, who in told]
        self.assertEqual([m(end) for end in ends], [end for end, who in told])
        self.assertEqual(ends, sorted(set(ends)))
        self.assertTrue(all(type(pair) is tuple and type(pair[1]) is int and pair[1] in (0, 1) for pair in told))
        self.assertTrue(all(pair[1] != behind[1] for pair, behind in zip(told, told[1:])))
        lasts = [Fraction(*last(stair)) for stair in (one, other) if stair != NEVER]
        self.assertEqual(ends[-1:], [max(lasts)] if lasts else [])
        for t in sorted(set(both_moments(one, other) + around(ends + [Fraction(0)]))):
            leading = [who for end, who in zip(ends, [who for end, who in told]) if t <= end][:1]
            self.assert_leads(one, other, leading, t)

    def assert_leads(self, one, other, leading, t):
        comings = [plain_coming(one, t), plain_coming(other, t)]
        if not leading:
            self.assertEqual(comings, [None, None])
            return
        mine, yours = comings[leading[0]], comings[1 - leading[0]]
        self.assertIsNotNone(mine, (one, other, t))
        self.assertTrue(yours is None or mine <= yours, (one, other, t))


class AsItWas(unittest.TestCase):
    def test_asked_again(self):
        asked = pairs()[:200]
        before = copy.deepcopy(asked)
        told = [(then(*pair), lesser(*pair), met(*pair)) for pair in asked]
        self.assertEqual(asked, before)
        self.assertEqual([(then(*pair), lesser(*pair), met(*pair)) for pair in before], told)


class Long(unittest.TestCase):
    def test_twelve_figures(self):
        one = row("999999999989/999999999961 1/999999999937 999999999899/499999999979; 7 8 999999999999/7")
        other = row("1/3 1/999999999989 999999999961/999999999899; 999999999937 999999999961/999999999899 999999999938")
        for stair in (one, other, then(one, other), lesser(one, other), then(other, lesser(one, other))):
            self.assertIs(is_stair(stair), True)
        for t in then_moments(one, other):
            self.assertEqual(plain_coming(then(one, other), t), plain_then(one, other, t))
        for t in both_moments(one, other):
            self.assertEqual(plain_coming(lesser(one, other), t), plain_lesser(one, other, t))

    def test_told_ones_handed_in_again(self):
        """Far more pieces, and far more figures, than what is handed in at first."""
        chance = random.Random(77)
        stairs = [self.long_one(chance) for at in range(8)]
        told, least = staying(m(10 ** 6)), NEVER
        for stair in stairs:
            before, told = told, then(told, stair)
            self.assertIs(is_stair(told), True)
            self.assertTrue(all(plain_coming(told, t) == plain_then(before, stair, t) for t in moments_of(told)[::5]))
            before, least = least, lesser(least, stair)
            self.assertIs(is_stair(least), True)
            self.assertTrue(all(plain_coming(least, t) == plain_lesser(before, stair, t) for t in moments_of(least)))
            self.assertTrue(lesser(stair, least) == least and met(least, stair)[-1][0] in (last(least), last(stair)))
        self.assertGreater(len(told), 100)
        self.assertGreater(len(least), 40)

    def long_one(self, chance):
        """Forty pieces of fractions of many figures, whose comings are close behind the leavings."""
        def part():
            below = chance.randrange(10 ** 8, 10 ** 9)
            return Fraction(chance.randrange(below), below)
        pieces, high = [], part()
        for at in range(40):
            end, low = at * 10 + 10 + part(), high + part()
            high = at * 10 + 12 + part()
            pieces.append((m(end), m(low), m(high)))
        return lean(tuple(pieces))


if __name__ == "__main__":
    unittest.main()
