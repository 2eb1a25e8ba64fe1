"""Questions to a net, their texts, such as `at a b 7/2 without c d`, and their answers."""

from hourstairs.alltimes import stairs_from
from hourstairs.backwards import leavings
from hourstairs.errors import NoText
from hourstairs.fractions import fraction_text, is_below, is_fraction, read_fraction
from hourstairs.nets import is_name, is_names
from hourstairs.soonest import soonest
from hourstairs.wishes import fewest, quickest, without

# How many moments a question of each sort has, behind its two names.
MOMENTS = {"at": 1, "by": 1, "all": 0, "few": 1, "quick": 2}
WITHOUT_WORD = "without"


def is_question(thing):
    if not isinstance(thing, tuple) or len(thing) < 4 or not isinstance(thing[0], str):
        return False
    if thing[0] not in MOMENTS or len(thing) != 4 + MOMENTS[thing[0]]:
        return False
    if not is_name(thing[1]) or not is_name(thing[2]) or not is_names(thing[-1]):
        return False
    moments = thing[3:-1]
    if not all([is_fraction(moment) for moment in moments]):
        return False
    return not any([is_below(later, moment) for moment, later in zip(moments, moments[1:])])


def question_text(question):
    names = list(question[-1])
    words = list(question[:3]) + [fraction_text(moment) for moment in question[3:-1]]
    if names != []:
        words += [WITHOUT_WORD] + names
    return " ".join(words)


def read_without(words):
    """The names behind the word, of which there is at least one; () of no words at all."""
    if words == []:
        return ()
    if words[0] != WITHOUT_WORD or len(words) < 2:
        raise NoText("no names that are not to be touched")
    return tuple(words[1:])


def read_question(text):
    if not isinstance(text, str):
        raise NoText("no text at all")
    words = text.split(" ")
    if words[0] not in MOMENTS:
        raise NoText("no question's word")
    behind = 3 + MOMENTS[words[0]]
    moments = [read_fraction(word) for word in words[3:behind]]
    question = tuple(words[:3] + moments) + (read_without(words[behind:]),)
    if not is_question(question):
        raise NoText("no question")
    return question


def answer(net, question):
    word, a, b = question[:3]
    moments = question[3:-1]
    left = without(net, question[-1])
    if word == "at":
        return soonest(left, a, b, moments[0])
    if word == "by":
        return leavings(left, b, moments[0]).get(a)
    if word == "all":
        return stairs_from(left, a).get(b, ())
    if word == "few":
        return fewest(left, a, b, moments[0])
    return quickest(left, a, b, moments[0], moments[1])
