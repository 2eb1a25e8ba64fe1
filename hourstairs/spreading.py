"""Stairs from a start over links, with the ways that are best: what [17] and [18] tell of nets, and kept stairs, too.

A link is a tuple (name, a, b, stair). What is KNOWN of a place is a pair (stair, marks): marks
are a tuple of pairs (end, way), of moments as pieces are, along which one comes by that stair.
"""

from hourstairs.fractions import is_below
from hourstairs.joining import compared, then
from hourstairs.nets import stairs_of
from hourstairs.stairs import last, lean, staying

UNKNOWN = ((), ())


def links_of(net):
    end, waits, ties = net
    stairs = stairs_of(net)
    return [(name, ties[name][0], ties[name][1], stairs[name]) for name in sorted(ties)]


def part_of(marks, beginning, end):
    """The marks of the moments behind the beginning (None: from 0 on) up to the end."""
    told = []
    for mark_end, way in marks:
        if beginning is None or is_below(beginning, mark_end):
            if not is_below(mark_end, end):
                return told + [(end, way)]
            told.append((mark_end, way))
    return told


def gone_on(known, link):
    """What is known of where the link leads, by those ways and then the link."""
    name, a, b, stair = link
    told = then(known[0], stair)
    if told == ():
        return UNKNOWN
    marks = part_of(known[1], None, last(told))
    return (told, tuple([(end, way + (name,)) for end, way in marks]))


def put_behind(pairs, end, value):
    """One more pair (end, value) put behind the others; the last goes on where it has that value."""
    if pairs != [] and pairs[-1][1] == value:
        pairs[-1] = (end, value)
    else:
        pairs.append((end, value))


def bettered(known, other):
    """What is known, with the other wherever that comes sooner; None where it does nowhere."""
    row, turns, marks = [], [], []
    for end, low, high, leading in compared(known[0], other[0]):
        row.append((end, low, high))
        # Where both come alike the old ways stay: so none is told that comes to a place twice.
        put_behind(turns, end, leading == (1,))
    if not any([is_other for end, is_other in turns]):
        return None
    beginning = None
    for end, is_other in turns:
        for mark_end, way in part_of(other[1] if is_other else known[1], beginning, end):
            put_behind(marks, mark_end, way)
        beginning = end
    return (lean(tuple(row)), tuple(marks))


def spread(links, start, end, closed):
    """What is known, by places, of all that one comes to; no way leads through the closed places."""
    known = {start: (staying(end), ((end, ()),))}
    fresh = [start]
    while fresh != []:
        ahead, fresh = fresh, []
        for link in links:
            name, a, b, stair = link
            if a in ahead and b != start:
                better = bettered(known.get(b, UNKNOWN), gone_on(known[a], link))
                if better is not None:
                    known[b] = better
                    if b not in closed and b not in fresh:
                        fresh.append(b)
    return known
