"""Rides: tuples (first, last, come, comes), and the stairs that are made of them."""

from hourstairs.errors import Overtaken
from hourstairs.fractions import is_below, is_fraction, plus, times
from hourstairs.joining import lesser, merged
from hourstairs.stairs import NOUGHT, coming, lean
from hourstairs.straights import on_straight

HALF = (1, 2)


def is_ride(thing):
    if not isinstance(thing, tuple) or len(thing) != 4 or not all([is_fraction(part) for part in thing]):
        return False
    first, last, come, comes = thing
    if is_below(last, first) or is_below(come, first) or is_below(comes, last):
        return False
    return first != last or come == comes


def is_rides(thing):
    return isinstance(thing, tuple) and all([is_ride(ride) for ride in thing])


def has_moment(ride, t):
    return not is_below(t, ride[0]) and not is_below(ride[1], t)


def come_by(ride, t):
    first, last, come, comes = ride
    if first == last:
        return come
    return on_straight((first, come), (last, comes), t)


def offer(rides, t):
    least = None
    for ride in rides:
        if has_moment(ride, t):
            come = come_by(ride, t)
            if least is None or is_below(come, least):
                least = come
    return least


def falls(ride):
    return is_below(ride[3], ride[2])


def best_from(ride, t):
    """The first moment from t on at which the ride comes at its least, and that; t is not behind its last."""
    if falls(ride):
        return (ride[1], ride[3])
    out = t if is_below(ride[0], t) else ride[0]
    return (out, come_by(ride, out))


def is_better(pair, best):
    if pair[1] == best[1]:
        return is_below(pair[0], best[0])
    return is_below(pair[1], best[1])


def set_out(rides, wait, t):
    if not wait:
        come = offer(rides, t)
        return None if come is None else (t, come)
    best = None
    for ride in rides:
        if not is_below(ride[1], t):
            pair = best_from(ride, t)
            if best is None or is_better(pair, best):
                best = pair
    return best


def waiting_stair(ride):
    first, last, come, comes = ride
    if falls(ride):
        return ((last, comes, comes),)
    if first == last:
        return ((first, come, come),)
    return lean(((first, come, come), (last, come, comes)))


def middle(one, other):
    return times(HALF, plus(one, other))


def trial_moments(rides, stair):
    """Moments that show it where the rides offer another coming than their stair with waiting has.

    Between two neighbours of the corners the same rides have all moments and the stair
    is straight: what is offered is nowhere below it and bends downwards only, so that,
    where it meets the stair in the middle, it is the stair.
    """
    corners = [NOUGHT]
    for ride in rides:
        corners = merged(corners, [ride[0], ride[1]])
    corners = merged(corners, [piece[0] for piece in stair])
    return corners + [middle(ahead, corner) for ahead, corner in zip(corners, corners[1:])]


def refuse_overtaking(rides, stair):
    for t in trial_moments(rides, stair):
        if offer(rides, t) != coming(stair, t):
            out, come = set_out(rides, True, t)
            raise Overtaken(t, out)


def stair_of(rides, wait):
    stair = ()
    for ride in rides:
        stair = lesser(stair, waiting_stair(ride))
    # Nobody is overtaken just if one who need not wait gains nothing by waiting.
    if not wait:
        refuse_overtaking(rides, stair)
    return stair
