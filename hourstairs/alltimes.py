"""All moments at once: the stairs from a start, the stair along a way, the stretches on which one way is best."""

from hourstairs.fractions import is_below, is_fraction
from hourstairs.joining import compared, then
from hourstairs.nets import stairs_of
from hourstairs.spreading import UNKNOWN, links_of, spread
from hourstairs.stairs import last, lean, staying


def stairs_from(net, start):
    known = spread(links_of(net), start, net[0], ())
    return {place: known[place][0] for place in sorted(known)}


def going_on(stair, stairs, way):
    """The stair, then the stairs of the ties of the way, in order."""
    for name in way:
        stair = then(stair, stairs[name])
    return stair


def along(net, way):
    return going_on(staying(net[0]), stairs_of(net), way)


def stretches(net, start, goal):
    stair, marks = spread(links_of(net), start, net[0], ()).get(goal, UNKNOWN)
    return marks


def is_way(thing, ties, start, goal):
    if not isinstance(thing, tuple):
        return False
    place = start
    for name in thing:
        if not isinstance(name, str) or name not in ties or ties[name][0] != place:
            return False
        place = ties[name][1]
    return place == goal


def is_stretch(thing, ties, start, goal):
    if not isinstance(thing, tuple) or len(thing) != 2:
        return False
    return is_fraction(thing[0]) and is_way(thing[1], ties, start, goal)


def staying_between(beginning, end):
    """The stair of one who stays, up to the end; up to the beginning (None: nowhere) one is there at the beginning.

    So what is put behind it tells of the moments of one stretch, and has few pieces of others.
    """
    if beginning is None:
        return staying(end)
    return lean(((beginning, beginning, beginning), (end, beginning, end)))


def comes_soonest(stairs, stair, way, beginning, end):
    """Whether one comes by the stair along the way, at all moments behind the beginning up to the end."""
    first = staying_between(beginning, end)
    for piece_end, low, high, leading in compared(going_on(first, stairs, way), then(first, stair)):
        if (beginning is None or is_below(beginning, piece_end)) and leading != (0, 1):
            return False
    return True


def all_come_soonest(net, stair, pairs):
    stairs = stairs_of(net)
    beginning = None
    for end, way in pairs:
        if not comes_soonest(stairs, stair, way, beginning, end):
            return False
        beginning = end
    return True


def reads_stretches(net, start, goal, thing):
    if not all([is_stretch(pair, net[2], start, goal) for pair in thing]):
        return False
    for ahead, pair in zip(thing, thing[1:]):
        if not is_below(ahead[0], pair[0]) or ahead[1] == pair[1]:
            return False
    stair = stairs_from(net, start).get(goal, ())
    if last(stair) != (thing[-1][0] if thing != () else None):
        return False
    return all_come_soonest(net, stair, thing)
