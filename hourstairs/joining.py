"""Stairs put together: one behind another, the lesser of two, two met piece by piece."""

from hourstairs.fractions import is_below, less, plus
from hourstairs.stairs import NOUGHT, beginning_of, coming, height, how_many, lean
from hourstairs.straights import on_straight


def through(other, beginning, piece):
    """The pieces by which one comes who takes this piece, but not at its beginning, then the other stair."""
    end, low, high = piece
    if low == high:
        come = coming(other, high)
        return [] if come is None else [(end, come, come)]
    pieces = []
    ahead = low
    at = how_many(other, lambda behind: not is_below(low, behind[0]))
    while at < len(other) and is_below(ahead, high):
        there = other[at][0] if is_below(other[at][0], high) else high
        moment = on_straight((low, beginning), (high, end), there)
        pieces.append((moment, height(other, at, ahead), height(other, at, there)))
        ahead = there
        at += 1
    return pieces


def then(one, other):
    start = coming(one, NOUGHT)
    come = None if start is None else coming(other, start)
    if come is None:
        return ()
    # The moment 0 stands alone: behind it one may come at once behind an end of the other.
    row = [(NOUGHT, come, come)]
    for at, piece in enumerate(one):
        if piece[0] != NOUGHT:
            row += through(other, beginning_of(one, at), piece)
    return lean(tuple(row))


def merged(one, other):
    """Two lists of rising moments made one, of each of them once."""
    moments = []
    mine = yours = 0
    while mine < len(one) or yours < len(other):
        if yours == len(other) or mine < len(one) and is_below(one[mine], other[yours]):
            moment = one[mine]
            mine += 1
        else:
            moment = other[yours]
            yours += 1
        if moments == [] or moments[-1] != moment:
            moments.append(moment)
    return moments


def cut_at(stair, ends):
    """For each end the (low, high) of the stair from the end ahead on; None behind its last.

    The first end is 0, and all ends of the stair are among them.
    """
    told = []
    for at, piece in enumerate(stair):
        low = piece[1]
        while len(told) < len(ends) and not is_below(piece[0], ends[len(told)]):
            high = height(stair, at, ends[len(told)])
            told.append((low, high))
            low = high
    return told + [None] * (len(ends) - len(told))


def leaders(one, other):
    """Who of the two is not the greater: (0,), (1,), or (0, 1) where they are alike."""
    if one == other:
        return (0, 1)
    return (0,) if is_below(one, other) else (1,)


def common(some, others):
    return tuple([who for who in some if who in others])


def apart(one, other):
    return less(other, one) if is_below(one, other) else less(one, other)


def crossed(beginning, end, mine, yours):
    """Two straights, of which each leads at one side: the lesser up to where they cross, and from there on."""
    gap, next_gap = apart(mine[0], yours[0]), apart(mine[1], yours[1])
    moment = on_straight((NOUGHT, beginning), (plus(gap, next_gap), end), gap)
    come = on_straight((beginning, mine[0]), (end, mine[1]), moment)
    if is_below(mine[0], yours[0]):
        return [(moment, mine[0], come, (0,)), (end, come, yours[1], (1,))]
    return [(moment, yours[0], come, (1,)), (end, come, mine[1], (0,))]


def compared_between(beginning, end, mine, yours):
    if mine is None or yours is None:
        low, high = yours if mine is None else mine
        return [(end, low, high, (1,) if mine is None else (0,))]
    leading = common(leaders(mine[0], yours[0]), leaders(mine[1], yours[1]))
    if leading == ():
        return crossed(beginning, end, mine, yours)
    low, high = mine if leading[0] == 0 else yours
    return [(end, low, high, leading)]


def compared(one, other):
    """Pieces of the lesser of two stairs, from one that ends at 0 on, with those who lead on all of it."""
    if one == () and other == ():
        return []
    ends = merged([NOUGHT], merged([piece[0] for piece in one], [piece[0] for piece in other]))
    told = []
    beginning = NOUGHT
    for end, mine, yours in zip(ends, cut_at(one, ends), cut_at(other, ends)):
        told += compared_between(beginning, end, mine, yours)
        beginning = end
    return told


def lesser(one, other):
    return lean(tuple([(end, low, high) for end, low, high, leading in compared(one, other)]))


def met(one, other):
    pairs = []
    # Who may be told for the last pair: as long as possible all who lead, so that pairs are few.
    candidates = ()
    for end, low, high, leading in compared(one, other):
        still = common(candidates, leading)
        if still == ():
            candidates = leading
            pairs.append((end, candidates[0]))
        else:
            candidates = still
            pairs[-1] = (end, candidates[0])
    return tuple(pairs)
