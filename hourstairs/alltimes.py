"""All moments at once: the stairs from a start, the stair along a way, the stretches on which one way is best."""

from hourstairs.fractions import is_below, is_fraction
from hourstairs.joining import compared, then
from hourstairs.nets import stairs_of
from hourstairs.spreading import UNKNOWN, links_of, spread
from hourstairs.stairs import last, staying


def stairs_from(net, start):
    known = spread(links_of(net), start, net[0], ())
    return {place: known[place][0] for place in sorted(known)}


def along_stairs(end, stairs, way):
    told = staying(end)
    for name in way:
        told = then(told, stairs[name])
    return told


def along(net, way):
    return along_stairs(net[0], stairs_of(net), way)


def stretches(net, start, goal):
    stair, marks = spread(links_of(net), start, net[0], ()).get(goal, UNKNOWN)
    return marks


def is_way(thing, ties, start, goal):
    if not isinstance(thing, tuple):
        return False
    place = start
    for name in thing:
        if not isinstance(name, str) or name not in ties or ties[name][0] != place:
            return False
        place = ties[name][1]
    return place == goal


def is_stretch(thing, ties, start, goal):
    if not isinstance(thing, tuple) or len(thing) != 2:
        return False
    return is_fraction(thing[0]) and is_way(thing[1], ties, start, goal)


def are_alike(pieces, beginning, end):
    """Whether both of the two that were compared come alike behind the beginning (None: from 0 on) up to the end."""
    ahead = None
    for piece_end, low, high, leading in pieces:
        is_behind = beginning is None or is_below(beginning, piece_end)
        if is_behind and (ahead is None or is_below(ahead, end)) and leading != (0, 1):
            return False
        ahead = piece_end
    return True


def come_soonest(net, stair, pairs):
    """Whether one comes by the stair along each way, at all moments of its stretch."""
    stairs = stairs_of(net)
    pieces = {}
    beginning = None
    for end, way in pairs:
        if way not in pieces:
            pieces[way] = compared(along_stairs(net[0], stairs, way), stair)
        if not are_alike(pieces[way], beginning, end):
            return False
        beginning = end
    return True


def reads_stretches(net, start, goal, thing):
    if not all([is_stretch(pair, net[2], start, goal) for pair in thing]):
        return False
    for ahead, pair in zip(thing, thing[1:]):
        if not is_below(ahead[0], pair[0]) or ahead[1] == pair[1]:
            return False
    stair = stairs_from(net, start).get(goal, ())
    if last(stair) != (thing[-1][0] if thing != () else None):
        return False
    return come_soonest(net, stair, thing)
