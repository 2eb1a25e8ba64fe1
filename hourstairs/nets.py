"""Nets: tuples (end, waits, ties) of places that are tied by rides."""

from hourstairs.errors import NotRight, Overtaken
from hourstairs.fractions import is_below, is_fraction
from hourstairs.rides import is_rides, stair_of

LETTERS = "abcdefghijklmnopqrstuvwxyz"
MOST_LETTERS = 8


def is_name(thing):
    if not isinstance(thing, str) or thing == "" or len(thing) > MOST_LETTERS:
        return False
    return all([sign in LETTERS for sign in thing])


def is_names(thing):
    """Whether it is a sorted tuple of unlike names."""
    if not isinstance(thing, tuple) or not all([is_name(name) for name in thing]):
        return False
    return all([ahead < name for ahead, name in zip(thing, thing[1:])])


def is_tie(thing, end):
    if not isinstance(thing, tuple) or len(thing) != 3:
        return False
    a, b, rides = thing
    if not is_name(a) or not is_name(b) or a == b or not is_rides(rides):
        return False
    return not any([is_below(end, ride[1]) for ride in rides])


def is_net(thing):
    if not isinstance(thing, tuple) or len(thing) != 3:
        return False
    end, waits, ties = thing
    if not is_fraction(end) or not is_names(waits) or not isinstance(ties, dict):
        return False
    return all([is_name(name) and is_tie(tie, end) for name, tie in ties.items()])


def places_of(net):
    end, waits, ties = net
    names = list(waits)
    for a, b, rides in ties.values():
        names += [a, b]
    return sorted(set(names))


def stairs_of(net):
    end, waits, ties = net
    stairs = {}
    for name in sorted(ties):
        a, b, rides = ties[name]
        try:
            stairs[name] = stair_of(rides, a in waits)
        except Overtaken as e:
            raise NotRight(name, e.first, e.second) from None
    return stairs
