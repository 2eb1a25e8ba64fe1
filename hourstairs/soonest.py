"""The soonest coming from a start at one moment, the way that leads there, and the paper that shows it."""

from hourstairs.fractions import is_below
from hourstairs.papers import NO_TIE, all_lead_to, is_paper, paper_by
from hourstairs.rides import set_out


def out_and_coming(net, name, moment):
    """When one sets out by the tie, and comes, who is there at the moment; None where one cannot."""
    end, waits, ties = net
    a, b, rides = ties[name]
    return set_out(rides, a in waits, moment)


def ridden(net, way, moment):
    rows = []
    for name in way:
        pair = out_and_coming(net, name, moment)
        if pair is None:
            return None
        out, come = pair
        rows.append((name, out, come))
        moment = come
    return tuple(rows)


def comings_from(net, place, moment):
    """Rows (place, coming, tie) of all ties by which one comes on from the place, at the moment, by sorted names."""
    end, waits, ties = net
    told = []
    for name in sorted(ties):
        if ties[name][0] == place:
            pair = out_and_coming(net, name, moment)
            if pair is not None:
                told.append((ties[name][1], pair[1], name))
    return told


def paper_of(net, start, moment):
    return paper_by(start, moment, lambda place, t: comings_from(net, place, t), is_below)


def soonest(net, start, goal, moment):
    paper = paper_of(net, start, moment)
    return paper[goal][0] if goal in paper else None


def way_to(net, start, goal, moment):
    end, waits, ties = net
    paper = paper_of(net, start, moment)
    if goal not in paper:
        return None
    names = []
    place = goal
    while place != start:
        name = paper[place][1]
        names.append(name)
        place = ties[name][0]
    return tuple(names[::-1])


def is_come_to(net, paper, place):
    """Whether the place's tie leads there from a place of the paper, just when it says."""
    end, waits, ties = net
    moment, name = paper[place]
    if name not in ties:
        return False
    a, b, rides = ties[name]
    if b != place or a not in paper:
        return False
    pair = out_and_coming(net, name, paper[a][0])
    return pair is not None and pair[1] == moment


def undercuts(net, paper, place):
    """Whether a tie from the place comes to one that lacks, or ahead of that one's moment."""
    rows = comings_from(net, place, paper[place][0])
    return any([other not in paper or is_below(come, paper[other][0]) for other, come, name in rows])


def reads_paper(net, start, moment, paper):
    if not is_paper(paper) or paper.get(start) != (moment, NO_TIE):
        return False
    if not all([place == start or is_come_to(net, paper, place) for place in paper]):
        return False
    return all_lead_to(start, paper, net[2], 0) and not any([undercuts(net, paper, place) for place in paper])
