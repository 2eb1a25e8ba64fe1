"""Papers: dicts from places to pairs (moment, tie), whose ties lead from place to place to the one that has none."""

from hourstairs.fractions import is_fraction
from hourstairs.nets import is_name

NO_TIE = ""


def first_of(found, is_ahead):
    """The place whose moment is ahead of all others' moments, the first by name of several."""
    best = None
    for place in sorted(found):
        if best is None or is_ahead(found[place][0], found[best][0]):
            best = place
    return best


def paper_by(root, moment, steps, is_ahead):
    """The paper of all places that steps lead to from the root on.

    Steps tell of a place and its moment the rows (place, moment, tie) that one comes to next,
    none of them ahead of that moment: so what is ahead of all others is never bettered later.
    """
    paper = {}
    found = {root: (moment, NO_TIE)}
    while found != {}:
        place = first_of(found, is_ahead)
        paper[place] = found[place]
        del found[place]
        for other, its_moment, tie in steps(place, paper[place][0]):
            if other not in paper and (other not in found or is_ahead(its_moment, found[other][0])):
                found[other] = (its_moment, tie)
    return paper


def is_pair(thing):
    return isinstance(thing, tuple) and len(thing) == 2 and is_fraction(thing[0]) and isinstance(thing[1], str)


def is_paper(paper):
    """Whether all in the dict are pairs of a moment and a text, by names."""
    return all([is_name(place) and is_pair(pair) for place, pair in paper.items()])


def leads_to(root, paper, ties, side, place):
    """Whether ties lead from the place to the root; of each tie the next place stands at that side, 0 or 1."""
    # Who has gone on as often as there are places, and is not there, goes round.
    for step in range(len(paper)):
        if place == root:
            return True
        place = ties[paper[place][1]][side]
    return False


def all_lead_to(root, paper, ties, side):
    return all([leads_to(root, paper, ties, side, place) for place in paper])
