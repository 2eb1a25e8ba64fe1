"""What the tests share: short ways to write things down, and answers found without the program.

Moments handed to and told by the plain_ functions are Fractions; rows and rides are the program's own.
"""
import itertools
import random
from fractions import Fraction

TINY = Fraction(1, 10 ** 12)

NO_MOMENTS = [None, True, False, 5, "5", "", [5, 1], [], {}, {5: 1}, (), (5,), (5, 1, 1), (10, 2), (-5, 1), (5, -1),
              (5, 0), (True, 1), (5, True), (False, 1), ((5, 1), 1), b"5", object()]


def m(thing):
    """A moment of a number, or of a text such as 7/2."""
    value = Fraction(thing)
    return (value.numerator, value.denominator)


def m_or_none(value):
    return None if value is None else m(value)


def row(text):
    """A row of what stands in a text such as `5 3 8; 9 8 9`, right or not; rides are written so, too."""
    return tuple(tuple(m(part) for part in piece.split()) for piece in text.split(";") if piece.strip())


def plain_coming(pieces, t):
    beginning = Fraction(0)
    for piece in pieces:
        end, low, high = [Fraction(*part) for part in piece]
        if t == end:
            return high
        if t < end:
            return low + (high - low) * (t - beginning) / (end - beginning)
        beginning = end
    return None


def moments_of(pieces):
    """Ends, moments between and around them, and some behind the last."""
    ends = [Fraction(0)] + [Fraction(*piece[0]) for piece in pieces]
    told = {ends[-1] + 1, ends[-1] + Fraction(1, 10 ** 9)}
    for one, other in zip(ends, ends[1:]):
        told |= {one, other, (one + other) / 2, one + (other - one) / 7, other - (other - one) / 10 ** 9}
        told.add(one + (other - one) / 10 ** 9)
    return sorted(told)


def around(corners):
    """These moments and those close to them on both sides, and the middles between them."""
    corners = sorted(corners)
    told = {moment + by for moment in corners for by in (-TINY, 0, TINY)}
    told |= {(one + other) / 2 for one, other in zip(corners, corners[1:])}
    return sorted(moment for moment in told if moment >= 0)


def plain_ride(ride, t):
    first, last, come, comes = [Fraction(*part) for part in ride]
    if not first <= t <= last:
        return None
    return come if first == last else come + (comes - come) * (t - first) / (last - first)


def plain_offer(rides, t):
    return min([told for told in [plain_ride(ride, t) for ride in rides] if told is not None], default=None)


def plain_set_out(rides, t):
    """With waiting: a ride comes at its least where it begins, where it ends, or at once."""
    outs = {t} | {Fraction(*part) for ride in rides for part in ride[:2]}
    told = [(plain_offer(rides, out), out) for out in outs if out >= t and plain_offer(rides, out) is not None]
    return None if not told else min(told)[::-1]


def ride_moments(rides):
    """Moments around all beginnings, ends and crossings of rides: what is offered is straight between these."""
    corners = {Fraction(0), Fraction(10 ** 6)} | {Fraction(*part) for ride in rides for part in ride[:2]}
    for one, other in itertools.combinations(rides, 2):
        low = max(Fraction(*one[0]), Fraction(*other[0]))
        high = min(Fraction(*one[1]), Fraction(*other[1]))
        if low < high:
            gap = plain_ride(one, low) - plain_ride(other, low)
            next_gap = plain_ride(one, high) - plain_ride(other, high)
            if gap * next_gap < 0:
                corners.add(low + (high - low) * gap / (gap - next_gap))
    return around(corners)


def plain_overtaking(rides):
    """Whether one is overtaken without waiting, seen at moments close to all corners."""
    offers = [plain_offer(rides, t) for t in ride_moments(rides)]
    least = None
    for told in reversed(offers):
        if told is None and least is not None or None not in (told, least) and told > least:
            return True
        least = told if told is not None else least
    return False


def some_row(chance, most):
    """A right row, often with pieces that go on as the one ahead of them."""
    pieces, end, high = [], Fraction(0), Fraction(chance.randrange(3))
    for at in range(chance.randrange(most + 1)):
        if at == 0 and chance.random() < 0.4:
            pieces.append((m(0), m(high), m(high)))
            continue
        width = Fraction(chance.randint(1, 6), chance.randint(1, 3))
        low = high + chance.choice([0, 0, 0, Fraction(1, 2), 2])
        rise = chance.choice([0, width, width * 2, width / 2])
        end += width
        high = max(low + rise, end)
        pieces.append((m(end), m(low), m(high)))
    return tuple(pieces)


def some_rows():
    chance = random.Random(20261117)
    return [some_row(chance, 8) for at in range(300)] + [some_row(chance, 40) for at in range(6)]


def some_ride(chance):
    first = Fraction(chance.randrange(13), chance.choice([1, 1, 2, 3]))
    last = first + chance.choice([0, 1, 2, 3, 5, Fraction(1, 2), Fraction(5, 3)])
    come = first + chance.randrange(9)
    comes = come if first == last else last + chance.randrange(9)
    return (m(first), m(last), m(come), m(comes))


def some_rides(chance, most):
    return tuple(some_ride(chance) for at in range(chance.randint(1, most)))


def rides_of(stair):
    """Rides of which it is the stair, with waiting and without: one for each piece."""
    beginnings = [m(0)] + [piece[0] for piece in stair]
    return tuple((beginning, end, low, high) for beginning, (end, low, high) in zip(beginnings, stair))
