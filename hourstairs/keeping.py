"""Kept stairs between chosen places, joined again, and mended where a tie changes."""

from hourstairs.errors import NoTie
from hourstairs.spreading import links_of, spread


def kept_from(links, end, chosen, a):
    known = spread(links, a, end, chosen)
    return {(a, b): known[b][0] for b in chosen if b != a and b in known}


def kept(net, chosen):
    links = links_of(net)
    told = {}
    for a in chosen:
        told.update(kept_from(links, net[0], chosen, a))
    return told


def joined(end, stairs, start):
    links = [(pair, pair[0], pair[1], stairs[pair]) for pair in sorted(stairs)]
    known = spread(links, start, end, ())
    return {place: known[place][0] for place in sorted(known)}


def first_chosen(ties, chosen, place, side):
    """The chosen places that ways come to first, from the place on (side 1) or back (side 0); itself, if chosen."""
    seen = {place: True}
    ahead = [place]
    while ahead != []:
        here = ahead.pop()
        if here not in chosen:
            for tie in ties.values():
                if tie[1 - side] == here and tie[side] not in seen:
                    seen[tie[side]] = True
                    ahead.append(tie[side])
    return [name for name in chosen if name in seen]


def leaning(net, chosen, tie):
    end, waits, ties = net
    if tie not in ties:
        return []
    a, b, rides = ties[tie]
    return [(first, second) for first in first_chosen(ties, chosen, a, 0)
            for second in first_chosen(ties, chosen, b, 1) if first != second]


def mended(stairs, touched, anew):
    """The kept stairs with those of the touched pairs as they are anew."""
    told = {pair: stairs[pair] for pair in stairs if pair not in touched}
    told.update({pair: anew[pair] for pair in anew if pair in touched})
    return {pair: told[pair] for pair in sorted(told)}


def own_copy(net):
    """The same net with a dict of its own, so that nobody else's changes reach it."""
    end, waits, ties = net
    return (end, waits, dict(ties))


class Keeper:
    """A net, chosen places, and the stairs kept between these."""

    def __init__(self, net, chosen):
        self.held = own_copy(net)
        self.chosen = chosen
        self.pairs = kept(net, chosen)

    def net(self):
        return own_copy(self.held)

    def stairs(self):
        return dict(self.pairs)

    def change(self, tie, rides):
        end, waits, ties = own_copy(self.held)
        if tie not in ties:
            raise NoTie(tie)
        a, b, before = ties[tie]
        ties[tie] = (a, b, rides)
        changed = (end, waits, ties)
        # Refused, if at all, ahead of any change to what is held.
        links = links_of(changed)
        touched = leaning(changed, self.chosen, tie)
        anew = {}
        for first in self.chosen:
            if first in [pair[0] for pair in touched]:
                anew.update(kept_from(links, end, self.chosen, first))
        self.held = changed
        self.pairs = mended(self.pairs, touched, anew)
        return touched
