"""Wishes: as few ties as can be, places that are not to be touched, the shortest time away."""

from hourstairs.alltimes import stairs_from
from hourstairs.fractions import is_below, less
from hourstairs.soonest import comings_from
from hourstairs.stairs import coming


def one_tie_more(net, found):
    """Of pairs (coming, way), by places, those of ways of at most one tie more; ways stay where none comes sooner."""
    more = dict(found)
    for place in sorted(found):
        moment, way = found[place]
        for other, come, name in comings_from(net, place, moment):
            if other not in more or is_below(come, more[other][0]):
                more[other] = (come, way + (name,))
    return more


def layers(net, start, moment, most):
    found = {start: (moment, ())}
    told = []
    for number in range(most + 1):
        told.append({place: pair[0] for place, pair in found.items()})
        found = one_tie_more(net, found)
    return tuple(told)


def fewest(net, start, goal, moment):
    found = {}
    more = {start: (moment, ())}
    while more != found:
        found = more
        more = one_tie_more(net, found)
    return found[goal][1] if goal in found else None


def without(net, places):
    end, waits, ties = net
    left = {name: tie for name, tie in ties.items() if tie[0] not in places and tie[1] not in places}
    return (end, waits, left)


def trial_moments(stair, first, second):
    """Moments of the window, one of which is the first at which the time away is least.

    Between them the stair is straight, and behind an end one comes no sooner than at it: so
    the time away is nowhere less than at one of them, and nowhere as little ahead of them.
    """
    ends = [piece[0] for piece in stair if is_below(first, piece[0]) and is_below(piece[0], second)]
    return [first] + ends + [second]


def quickest(net, start, goal, first, second):
    if goal == start:
        return (first, first)
    stair = stairs_from(net, start).get(goal, ())
    best = None
    for t in trial_moments(stair, first, second):
        come = coming(stair, t)
        if come is not None and (best is None or is_below(less(come, t), less(best[1], best[0]))):
            best = (t, come)
    return best
