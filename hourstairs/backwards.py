"""Backwards: of each place the last moment at which one who is there still comes to a goal by a moment."""

from hourstairs.fractions import is_below
from hourstairs.papers import NO_TIE, all_lead_to, is_paper, paper_by
from hourstairs.spreading import links_of
from hourstairs.stairs import coming, latest


def leavings_to(links, place, y):
    """Rows (place, leaving, tie) of all ties by which one comes to the place by y, by sorted names."""
    told = []
    for name, a, b, stair in links:
        leaving = latest(stair, y) if b == place else None
        if leaving is not None:
            told.append((a, leaving, name))
    return told


def is_behind(one, other):
    return is_below(other, one)


def leaving_paper(net, goal, moment):
    links = links_of(net)
    return paper_by(goal, moment, lambda place, y: leavings_to(links, place, y), is_behind)


def leavings(net, goal, moment):
    return {place: pair[0] for place, pair in leaving_paper(net, goal, moment).items()}


def is_in_time(links, paper, place):
    """Whether the place's tie leads, at its moment, to a place of the paper, not behind that one's moment."""
    moment, tie = paper[place]
    for name, a, b, stair in links:
        if name == tie:
            come = coming(stair, moment)
            return a == place and b in paper and come is not None and not is_below(paper[b][0], come)
    return False


def is_missed(links, paper, place):
    """Whether one may leave for the place later than the paper says, or from a place that lacks."""
    rows = leavings_to(links, place, paper[place][0])
    return any([other not in paper or is_below(paper[other][0], leaving) for other, leaving, name in rows])


def reads_leavings(net, goal, moment, paper):
    if not is_paper(paper) or paper.get(goal) != (moment, NO_TIE):
        return False
    links = links_of(net)
    if not all([place == goal or is_in_time(links, paper, place) for place in paper]):
        return False
    return all_lead_to(goal, paper, net[2], 1) and not any([is_missed(links, paper, place) for place in paper])
