"""Texts of nets: a line for the end, one for the waits, one for each tie, and behind it one for each of its rides."""

from hourstairs.errors import NoText
from hourstairs.fractions import fraction_text, read_fraction
from hourstairs.nets import is_net

END_WORD = "end"
WAITS_WORD = "waits"
TIE_WORD = "tie"
RIDE_WORD = "ride"


def tie_lines(name, tie):
    a, b, rides = tie
    lines = [" ".join([TIE_WORD, name, a, b])]
    for ride in rides:
        lines.append(" ".join([RIDE_WORD] + [fraction_text(part) for part in ride]))
    return lines


def net_text(net):
    end, waits, ties = net
    lines = [" ".join([END_WORD, fraction_text(end)]), " ".join([WAITS_WORD] + list(waits))]
    for name in sorted(ties):
        lines += tie_lines(name, ties[name])
    return "".join([line + "\n" for line in lines])


def read_end(words):
    if len(words) != 2 or words[0] != END_WORD:
        raise NoText("no line of the end")
    return read_fraction(words[1])


def read_waits(words):
    if words[0] != WAITS_WORD:
        raise NoText("no line of the waits")
    return tuple(words[1:])


def read_ties(rows):
    ties = {}
    # The name of the last tie, which the next one's must be behind; all names are behind the empty one.
    name = ""
    for words in rows:
        if words[0] == TIE_WORD and len(words) == 4 and words[1] > name:
            name = words[1]
            ties[name] = (words[2], words[3], ())
        elif words[0] == RIDE_WORD and name != "":
            a, b, rides = ties[name]
            ties[name] = (a, b, rides + (tuple([read_fraction(word) for word in words[1:]]),))
        else:
            raise NoText("no line of a tie or of a ride, or not in its place")
    return ties


def read_net(text):
    if not isinstance(text, str) or not text.endswith("\n"):
        raise NoText("no text of whole lines")
    rows = [line.split(" ") for line in text[:-1].split("\n")]
    if len(rows) < 2:
        raise NoText("lines lack")
    net = (read_end(rows[0]), read_waits(rows[1]), read_ties(rows[2:]))
    if not is_net(net):
        raise NoText("no net")
    return net
