"""Texts of stairs, such as `5 3 8; 9 8 9`, and `never`."""

from hourstairs.errors import NoText
from hourstairs.fractions import fraction_text, read_fraction
from hourstairs.stairs import is_stair

NEVER_TEXT = "never"


def piece_text(piece):
    return " ".join([fraction_text(part) for part in piece])


def stair_text(stair):
    if stair == ():
        return NEVER_TEXT
    return "; ".join([piece_text(piece) for piece in stair])


def read_piece(text):
    return tuple([read_fraction(part) for part in text.split(" ")])


def read_stair(text):
    if not isinstance(text, str):
        raise NoText("no text at all")
    if text == NEVER_TEXT:
        return ()
    stair = tuple([read_piece(part) for part in text.split("; ")])
    if not is_stair(stair):
        raise NoText("no stair")
    return stair
