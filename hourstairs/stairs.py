"""Stairs: tuples of pieces (end, low, high) that tell of each moment when one comes."""

from hourstairs.fractions import is_below, is_fraction, less, times
from hourstairs.straights import on_straight

NOUGHT = (0, 1)


def is_piece(thing):
    return isinstance(thing, tuple) and len(thing) == 3 and all([is_fraction(part) for part in thing])


def is_right_alone(piece):
    end, low, high = piece
    return not is_below(high, low) and not is_below(high, end)


def is_right_first(piece):
    end, low, high = piece
    return end != NOUGHT or low == high


def is_right_behind(ahead, piece):
    # No low is below its beginning then either, as the high ahead is not.
    return is_below(ahead[0], piece[0]) and not is_below(piece[1], ahead[2])


def is_row(thing):
    if not isinstance(thing, tuple) or not all([is_piece(piece) for piece in thing]):
        return False
    if not all([is_right_alone(piece) for piece in thing]):
        return False
    if thing != () and not is_right_first(thing[0]):
        return False
    return all([is_right_behind(ahead, piece) for ahead, piece in zip(thing, thing[1:])])


def goes_on(beginning, ahead, piece):
    """Whether the piece makes one straight with the one ahead, which has that beginning."""
    if piece[1] != ahead[2]:
        return False
    rise, width = less(ahead[2], ahead[1]), less(ahead[0], beginning)
    next_rise, next_width = less(piece[2], piece[1]), less(piece[0], ahead[0])
    # Crosswise a first piece that ends at 0, of no rise and no width, rises as any second one does.
    return times(rise, next_width) == times(next_rise, width)


def lean(row):
    pieces = []
    beginning = NOUGHT
    for piece in row:
        if pieces != [] and goes_on(beginning, pieces[-1], piece):
            pieces[-1] = (piece[0], pieces[-1][1], piece[2])
        else:
            beginning = NOUGHT if pieces == [] else pieces[-1][0]
            pieces.append(piece)
    return tuple(pieces)


def is_stair(thing):
    return is_row(thing) and lean(thing) == thing


def how_many(stair, holds):
    """The number of pieces of which it holds, where these stand ahead of all others."""
    fewest, most = 0, len(stair)
    while fewest < most:
        middle = (fewest + most) // 2
        if holds(stair[middle]):
            fewest = middle + 1
        else:
            most = middle
    return fewest


def beginning_of(stair, at):
    return NOUGHT if at == 0 else stair[at - 1][0]


def height(stair, at, t):
    """When one comes by the straight of that piece, at a moment of it or at its beginning."""
    end, low, high = stair[at]
    # A first piece that ends at 0 has no width: all of it is its end.
    if t == end:
        return high
    return on_straight((beginning_of(stair, at), low), (end, high), t)


def coming(stair, t):
    at = how_many(stair, lambda piece: is_below(piece[0], t))
    return None if at == len(stair) else height(stair, at, t)


def last(stair):
    return None if stair == () else stair[-1][0]


def latest(stair, y):
    at = how_many(stair, lambda piece: not is_below(y, piece[1])) - 1
    if at < 0:
        return None
    end, low, high = stair[at]
    if not is_below(y, high):
        return end
    # Where y is the low itself this is the beginning, which belongs to the piece
    # ahead: there, too, one comes by y.
    return on_straight((low, beginning_of(stair, at)), (high, end), y)


def staying(end):
    return ((end, NOUGHT, end),)
