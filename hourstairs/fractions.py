"""Fractions: tuples (n, d) of whole numbers in lowest terms, from 0 on."""

from hourstairs.errors import NoText

FIGURES = "0123456789"

# Python turns only numbers of some thousand figures into texts and back at once,
# so longer ones are cut into blocks: so many figures each, and what a block counts up to.
BLOCK_FIGURES = 64
BLOCK = 10 ** 64


def is_whole(thing):
    return isinstance(thing, int) and not isinstance(thing, bool)


def common_divisor(n, d):
    """The greatest whole number that divides both."""
    while d != 0:
        n, d = d, n % d
    return n


def is_fraction(thing):
    if not isinstance(thing, tuple) or len(thing) != 2:
        return False
    n, d = thing
    if not is_whole(n) or not is_whole(d):
        return False
    return n >= 0 and d >= 1 and common_divisor(n, d) == 1


def fraction(n, d):
    divisor = common_divisor(n, d)
    return (n // divisor, d // divisor)


def plus(one, other):
    return fraction(one[0] * other[1] + other[0] * one[1], one[1] * other[1])


def less(one, other):
    return fraction(one[0] * other[1] - other[0] * one[1], one[1] * other[1])


def times(one, other):
    return fraction(one[0] * other[0], one[1] * other[1])


def over(one, other):
    return fraction(one[0] * other[1], one[1] * other[0])


def is_below(one, other):
    return one[0] * other[1] < other[0] * one[1]


def number_text(number):
    blocks = []
    while number >= BLOCK:
        number, rest = divmod(number, BLOCK)
        blocks.append(str(rest).zfill(BLOCK_FIGURES))
    blocks.append(str(number))
    return "".join(blocks[::-1])


def fraction_text(moment):
    n, d = moment
    if d == 1:
        return number_text(n)
    return number_text(n) + "/" + number_text(d)


def is_number_text(text):
    # Python's own tests take figures of other scripts, too.
    if text == "" or not all([sign in FIGURES for sign in text]):
        return False
    return text == "0" or text[0] != "0"


def read_number(text):
    if not is_number_text(text):
        raise NoText("no whole number in figures")
    head = len(text) % BLOCK_FIGURES
    number = int("0" + text[:head])
    for at in range(head, len(text), BLOCK_FIGURES):
        number = number * BLOCK + int(text[at:at + BLOCK_FIGURES])
    return number


def read_fraction(text):
    if not isinstance(text, str):
        raise NoText("no text at all")
    above, slash, below = text.partition("/")
    n = read_number(above)
    if slash == "":
        return (n, 1)
    d = read_number(below)
    if d < 2 or common_divisor(n, d) != 1:
        raise NoText("no fraction in lowest terms")
    return (n, d)
