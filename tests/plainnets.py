"""What the tests of nets share: short ways to write nets down, and answers found way by way, without the program.

Moments handed to and told by the plain_ functions are Fractions; nets and ways are the program's own.
"""
import random
from fractions import Fraction

from plain import m, plain_offer, plain_set_out, rides_of, row, some_rides, some_row

NO_KEYS = ["", "A", "abcdefghi", "a1", "\u00e9", None, True, 0, 5, (), ("a",), b"a", object(), len, m(3), 10 ** 5000]
# Things that stand in place of names of ties, of ways, of moments and of pairs, where anything may stand.
ODDS = [None, True, False, 0, 1, 5, -3, "", "x", "zz", "A", b"x", (), ("x",), [], ["x"], {}, {"x": 1}, {"x"}, object(),
        len, 10 ** 5000, ((), ()), [[]], m(3), range(2)]


def net(end, waits, *ties):
    """A net of texts: `net(9, "a c", "x a b: 3 5 4 8; 6 6 7 7", "y b c:")`."""
    told = {}
    for text in ties:
        head, colon, rides = text.partition(":")
        name, a, b = head.split()
        told[name] = (a, b, row(rides))
    return (m(end), tuple(waits.split()), told)


def turned(thing):
    """The same net, its ties put in from the last to the first."""
    end, waits, ties = thing
    return (end, waits, {name: ties[name] for name in reversed(list(ties))})


def plain_tie(thing, name, t):
    """(out, coming) of one who is there at t, or None."""
    end, waits, ties = thing
    a, b, rides = ties[name]
    if a in waits:
        return plain_set_out(rides, t)
    come = plain_offer(rides, t)
    return None if come is None else (t, come)


def plain_ridden(thing, way, t):
    rows = []
    for name in way:
        told = plain_tie(thing, name, t)
        if told is None:
            return None
        rows.append((name,) + told)
        t = told[1]
    return rows


def plain_end(thing, way, t):
    """When one comes along the way, or None."""
    rows = plain_ridden(thing, way, t)
    return None if rows is None else rows[-1][2] if rows else t


def ways_of(thing, start, most):
    """All ways of at most so many ties, with the places where they end; they may come to a place twice."""
    told = [((), start)]
    newest = told
    for at in range(most):
        newest = [(way + (name,), b) for way, place in newest
                  for name, (a, b, rides) in sorted(thing[2].items()) if a == place]
        told = told + newest
    return told


def names_in(thing):
    return sorted(set(thing[1]) | {name for a, b, rides in thing[2].values() for name in (a, b)})


def plain_comings(thing, start, t, most=None):
    """By places the least coming of all ways of at most so many ties, ridden one by one."""
    most = len(names_in(thing)) if most is None else most
    told = {}
    for way, place in ways_of(thing, start, most):
        come = plain_end(thing, way, t)
        if come is not None and (place not in told or come < told[place]):
            told[place] = come
    return told


def late_row(chance):
    """A right row whose last piece ends at 30, so that who comes by one tie may still go on by another."""
    pieces = some_row(chance, 3)
    low = Fraction(*pieces[-1][2]) if pieces else Fraction(0)
    low += chance.choice([0, Fraction(1, 2), 2])
    return pieces + ((m(30), m(low), m(max(low, 30 + chance.choice([0, 1, 4])))),)


def some_tie_rides(chance, wait):
    sort = chance.random()
    if sort < 0.15:
        return row("0 30 0 30")
    if sort < 0.2:
        return ()
    if sort < 0.6:
        return rides_of(late_row(chance))
    return some_rides(chance, 4) if wait else rides_of(some_row(chance, 5))


def some_net(chance, most_places=4, most_ties=6):
    """A right net of small numbers; often with ties of no riding time."""
    places = list("abcdefghi"[:chance.randint(2, most_places)])
    waits = tuple(sorted(chance.sample(places, chance.randint(0, len(places)))))
    ties = {}
    for name in chance.sample("kmnpqrstuv", chance.randint(2, most_ties)):
        a, b = chance.sample(places, 2)
        ties[name] = (a, b, some_tie_rides(chance, a in waits))
    return (m(30), waits, ties)


def some_nets(seed, many, most_places=4, most_ties=6):
    chance = random.Random(seed)
    return [some_net(chance, most_places, most_ties) for at in range(many)]


def some_moments(chance, many):
    return [Fraction(chance.randrange(0, 80), chance.choice([1, 2, 3, 4, 7])) for at in range(many)]


def pairs(**told):
    """A paper of texts, such as `a="3"` and `b="5 x"`."""
    return {place: (m(text.split()[0]), text.partition(" ")[2]) for place, text in told.items()}


def some_change(chance, thing, paper, side):
    """A paper with something left out, or put in, or changed; a place's ties have it at that side."""
    place = chance.choice(sorted(paper) + names_in(thing))
    moment, tie = paper.get(place, (m(3), "zz"))
    sort = chance.randrange(4)
    if sort == 0:
        return {name: pair for name, pair in paper.items() if name != place or chance.random() < 0.3}
    ties = [name for name in sorted(thing[2]) if thing[2][name][side] == place]
    tie = chance.choice(ties + [tie]) if sort in (1, 3) else tie
    moment = m(max(0, Fraction(*moment) + chance.choice([0, 1, -1]))) if sort in (2, 3) else moment
    return {**paper, place: (moment, tie)}


def no_pairs(pair):
    """Things that are not this pair, and no pair at all."""
    moment, tie = pair
    return ODDS + [[moment, tie], (moment, tie, ""), (moment, tie, None), (moment,), (tie, moment), moment, tie,
                   {moment: tie},
                   ((moment, tie),), moment + (tie,), (list(moment), tie), (moment, [tie])]
