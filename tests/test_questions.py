import copy
import itertools
import random
import unittest
from fractions import Fraction

from hourstairs.alltimes import stairs_from
from hourstairs.backwards import leavings
from hourstairs.errors import HourError, NoText
from hourstairs.questions import answer, is_question, question_text, read_question
from hourstairs.soonest import soonest
from hourstairs.stairs import staying
from hourstairs.wishes import fewest, quickest, without
from plain import NO_MOMENTS, m, row
from plainnets import ODDS, names_in, net, some_moments, some_net, turned

QUESTIONS = {
    "at a b 7/2 without c d": ("at", "a", "b", m("7/2"), ("c", "d")), "at a b 0": ("at", "a", "b", m(0), ()),
    "by a b 9": ("by", "a", "b", m(9), ()), "by a b 9 without c": ("by", "a", "b", m(9), ("c",)),
    "all a b": ("all", "a", "b", ()), "all a b without c d e": ("all", "a", "b", ("c", "d", "e")),
    "few a b 3": ("few", "a", "b", m(3), ()), "few a b 3/4 without c": ("few", "a", "b", m("3/4"), ("c",)),
    "quick a b 3 7": ("quick", "a", "b", m(3), m(7), ()), "quick a b 3 3": ("quick", "a", "b", m(3), m(3), ()),
    "quick a b 1/2 2/3 without a b": ("quick", "a", "b", m("1/2"), m("2/3"), ("a", "b")),
    "at a a 5": ("at", "a", "a", m(5), ()), "all abcdefgh zzzzzzzz": ("all", "abcdefgh", "zzzzzzzz", ()),
    "at a b 999999999999/2": ("at", "a", "b", m("999999999999/2"), ()),
}
WORDS = ["at", "by", "all", "few", "quick", "without"]
NO_NAMES = ["", "A", "aB", "abcdefghi", "a1", "1", "a\n", " a", "a_b", "\u00e9", "\uff41", None, True, False, 0, 5,
            b"a", ("a",), (),
            ["a"], [], {}, {"a"}, object(), m(5)]
NO_TEXTS = [
    "", " ", "at", "at a", "at a b", "at a b 0 c", "at a b 0 0", "at a b 0 c d", "by a b", "by a b 9 9", "all",
    "all a", "all a b 0", "all a b c", "few a b", "few a b 3 4", "quick a b", "quick a b 3", "quick a b 3 7 9",
    "a b 0", "At a b 0", "AT a b 0", "on a b 0", "ata b 0", "at a b0", "atab0", "at  a b 0", "at a  b 0", "at a b  0",
    " at a b 0", "at a b 0 ", "at\ta b 0", "at a\nb 0", "at a b 0\n", "\nat a b 0", "at,a,b,0", "at a b 0 without",
    "at a b 0 without ", "all a b without", "all a b without ", "quick a b 3 7 without", "at a b 0 without  c",
    "at a b 0  without c", "at a b 0 without c ", "at a b 0 without c  d", "at a b 0 without d c",
    "at a b 0 without c c", "at a b 0 without c d d", "at a b 0 without c e d", "at a b 0 without ab a",
    "at a b 0 Without c", "at a b 0 with c", "at a b 0 withoutc", "at a b without c 0", "without c at a b 0",
    "at a b without c", "at a b 0 c without", "at a b 0 without c,d", "quick a b 7 3", "quick a b 1/2 1/3",
    "quick a b 3000001/1000000 3", "quick a b 7 3 without c", "at 0 a b", "at a 0 b", "few 3 a b",
    "all a b 0 without c", "at a b 0 without c without d x1", "at a b 0; at a b 0", "at a b 0\nat a b 0", " " * 5002,
    "at " * 1667, "at a b " + "0" * 4995, "at a b 0 without" + " c" * 2000]
MOMENTS = ["05", "+5", "-5", "5.0", "10/2", "5/1", "5/", "/5", "5/0", "0/5", "00", "x", "1e1", "5_0", "\u0665", "",
           "()"]
NAMES = ["A", "aB", "a1", "abcdefghi", "a-b", "\u00e9", "\uff41", "", "()", "7/2"]
NOT_EVEN_TEXTS = [None, True, False, 0, 5, (), [], {}, ("at", "a", "b", m(0), ()), ["all a b"], ("all a b",),
                  b"all a b", b"", object(),
                  str, len, {"all a b"}, {"all a b": 1}, NoText("all a b"), ["all", "a", "b"], 10 ** 5000]


class IsQuestion(unittest.TestCase):
    def test_each_sort(self):
        for question in QUESTIONS.values():
            self.assertIs(is_question(question), True, question)

    def assert_none(self, *things):
        for thing in things:
            self.assertIs(is_question(thing), False, thing)

    def changed(self, question, at, thing):
        return question[:at] + (thing,) + question[at + 1:]

    def test_another_word(self):
        for question in QUESTIONS.values():
            for word in ODDS + ["At", "on", "without", "at ", "a", ["at"], {"at": 1}, ("at",), b"at"]:
                self.assert_none(self.changed(question, 0, word))

    def test_the_word_of_a_sort_with_other_parts(self):
        for question, word in itertools.product(QUESTIONS.values(), WORDS):
            sorts = {"at": 1, "by": 1, "few": 1, "all": 0, "quick": 2}
            self.assertIs(is_question(self.changed(question, 0, word)), sorts.get(word) == sorts[question[0]],
                          (question, word))

    def test_parts_more_or_fewer(self):
        for question in QUESTIONS.values():
            self.assert_none(*[question[:at] + question[at + 1:] for at in range(len(question))])
            self.assert_none(*[question[:at] + question[at:at + 1] + question[at:] for at in range(len(question))])
            self.assert_none(*[question[:at] for at in range(len(question))])
            self.assert_none(question + ((),), question + (None,), (question,), list(question), question[::-1])

    def test_names_that_are_none(self):
        for question, at, thing in itertools.product(QUESTIONS.values(), (1, 2), NO_NAMES):
            self.assert_none(self.changed(question, at, thing))

    def test_moments_that_are_none(self):
        for question in QUESTIONS.values():
            for at, thing in itertools.product(range(3, len(question) - 1), NO_MOMENTS):
                self.assert_none(self.changed(question, at, thing))
        for truth in [(True, 1), (1, True), (False, 1)]:
            self.assert_none(("at", "a", "b", truth, ()), ("by", "a", "b", truth, ()), ("few", "a", "b", truth, ()),
                             ("quick", "a", "b", truth, m(5), ()), ("quick", "a", "b", m(0), truth, ()))

    def test_names_not_to_be_touched(self):
        for question in QUESTIONS.values():
            for thing in NO_NAMES:
                self.assert_none(*[question[:-1] + (names,) for names in [(thing,), ("a", thing), (thing, "zz")]])
            for names in [("b", "a"), ("a", "a"), ("a", "b", "b"), ("a", "c", "b"), ("ab", "a"), ["a"], [], {"a"}, {},
                          "a", "", None,
                          (("a",),), m(5), ("a", 5)]:
                self.assert_none(question[:-1] + (names,))
            for names in [("a",), ("a", "b"), ("without", "zz"), tuple("abcdefghi"), ()]:
                self.assertIs(is_question(question[:-1] + (names,)), True)

    def test_a_window_whose_first_is_above_its_last(self):
        for first, second, told in [(3, 7, True), (3, 3, True), (7, 3, False), ("1/2", "1/3", False),
                                    ("1/3", "1/2", True), (0, 0, True),
                                    ("3000001/1000000", 3, False)]:
            self.assertIs(is_question(("quick", "a", "b", m(first), m(second), ())), told)

    def test_anything(self):
        self.assert_none(*ODDS)
        for thing in ODDS:
            self.assert_none((thing,), (thing,) * 4, (thing,) * 5, (thing,) * 6, (thing, "a", "b", ()))
            is_name = thing in ("x", "zz") if isinstance(thing, str) else False
            self.assertIs(is_question(("all", thing, "b", ())), is_name, thing)
            self.assertIs(is_question(("all", "a", thing, ())), is_name, thing)
            if not isinstance(thing, tuple) or thing not in ((), ("x",)):
                self.assert_none(("all", "a", "b", thing))


class Texts(unittest.TestCase):
    def assert_both(self, text, question):
        self.assertEqual(question_text(question), text)
        told = read_question(text)
        self.assertEqual(told, question)
        self.assertIs(is_question(told), True)

    def test_there_and_back(self):
        for text, question in QUESTIONS.items():
            self.assert_both(text, question)

    def test_names_that_are_words_of_the_text(self):
        for a, b, c in itertools.product(WORDS, repeat=3):
            self.assert_both(f"at {a} {b} 7/2 without {c}", ("at", a, b, m("7/2"), (c,)))
            self.assert_both(f"all {a} {b} without {c}", ("all", a, b, (c,)))
            self.assert_both(f"all {a} {b}", ("all", a, b, ()))
            self.assert_both(f"quick {a} {b} 1 2 without {c}", ("quick", a, b, m(1), m(2), (c,)))
        self.assert_both("few few without 3 without all at by few quick without", (
            "few", "few", "without", m(3), ("all", "at", "by", "few", "quick", "without")))

    def test_no_texts(self):
        for text in NO_TEXTS:
            with self.assertRaises(NoText, msg=repr(text[:80])):
                read_question(text)

    def test_words_and_blanks_more_or_fewer(self):
        for text in QUESTIONS:
            words = text.split(" ")
            for at in [at for at, sign in enumerate(text) if sign == " "]:
                self.assertRaises(NoText, read_question, text[:at] + " " + text[at:])
                self.assertRaises(NoText, read_question, text[:at] + "\n" + text[at + 1:])
            for other in [text + " ", " " + text, text + "\n", text + " 5", text + " A", "at " + text]:
                self.assertRaises(NoText, read_question, other)
            for at in range(4 if len(words) > 3 else 3):
                if text != "all a b without c d e" or at < 3:
                    self.assertRaises(NoText, read_question, " ".join(words[:at] + words[at + 1:]))

    def test_moments_and_names_that_are_none(self):
        for moment in MOMENTS:
            for text in [f"at a b {moment}", f"by a b {moment}", f"few a b {moment} without c",
                         f"quick a b {moment} 9", f"quick a b 0 {moment}"]:
                self.assertRaises(NoText, read_question, text)
        for name in NAMES:
            for text in [f"at {name} b 0", f"at a {name} 0", f"all {name} b", f"all a {name}",
                         f"all a b without {name}",
                         f"quick {name} b 0 1", f"at a b 0 without a {name}", f"at a b 0 without {name} z"]:
                self.assertRaises(NoText, read_question, text)

    def test_not_even_texts(self):
        for at, thing in enumerate(NOT_EVEN_TEXTS):
            with self.assertRaises(NoText, msg=at):
                read_question(thing)

    def test_refused_under_hour_error(self):
        self.assertRaises(HourError, read_question, "at a b")

    def test_each_sign_left_out_put_in_or_changed(self):
        """What is read is told as the very text that was read, whatever was done to it."""
        read = 0
        for text in QUESTIONS:
            for at, sign in itertools.product(range(len(text) + 1),
                                              ["", " ", "\n", "/", "0", "7", "b", "A", " without", "all "]):
                for other in (text[:at] + sign + text[at:], text[:at] + sign + text[at + 1:]):
                    try:
                        question = read_question(other)
                    except NoText:
                        continue
                    read += 1
                    self.assertIs(is_question(question), True, other)
                    self.assertEqual(question_text(question), other)
        self.assertGreater(read, 200)

    def test_longest_texts(self):
        text = "at a b " + "7" * 4995
        self.assertTrue(question_text(read_question(text)) == text)


NET = net(20, "a", "x a b: 2 6 3 7", "y b c: 0 20 1 21", "z a c: 0 8 3 11", "w c a: 0 20 1 21")


class Answer(unittest.TestCase):
    def test_by_hand(self):
        for text, told in [
                ("at a c 3", m(5)), ("at a c 3 without b", m(6)), ("at a c 9", None), ("at a c 3 without c", None),
                ("at a a 30", m(30)), ("at a a 3 without a", m(3)),
                ("by a c 7", m(5)), ("by a c 7 without b", m(4)), ("by a c 2", None), ("by c c 7", m(7)),
                ("all a c", row("1 3 4; 2 4 4; 6 4 8; 8 9 11")), ("all a c without b", row("8 3 11")),
                ("all a c without a", ()), ("all b b", staying(m(20))), ("all a zz", ()),
                ("few a c 3", ("x", "y")), ("few a c 3 without b d", ("z",)), ("few a c 3 without a b", None),
                ("few b b 3", ()), ("quick a c 0 20", (m(2), m(4))), ("quick a c 0 1", (m(0), m(3))),
                ("quick a c 0 20 without b", (m(0), m(3))), ("quick a c 9 20", None),
                ("quick c c 9 20", (m(9), m(9)))]:
            self.assertEqual(answer(NET, read_question(text)), told, text)

    def test_against_the_other_modules(self):
        chance = random.Random(121)
        some = {word: 0 for word in WORDS}
        none = dict(some)
        for at in range(300):
            thing = some_net(chance, 5, 8)
            a, b = chance.choice(names_in(thing)), chance.choice(names_in(thing) + ["zz"])
            names = tuple(sorted(chance.sample(names_in(thing) + ["zz"], chance.choice([0, 0, 1, 2]))))
            first, second = [m(t) for t in sorted(some_moments(chance, 2))]
            left = without(thing, names)
            for question, told in [
                    (("at", a, b, first, names), soonest(left, a, b, first)),
                    (("by", a, b, second, names), leavings(left, b, second).get(a)),
                    (("all", a, b, names), stairs_from(left, a).get(b, ())),
                    (("few", a, b, first, names), fewest(left, a, b, first)),
                    (("quick", a, b, first, second, names), quickest(left, a, b, first, second))]:
                self.assertEqual(answer(thing, question), told, (thing, question))
                some[question[0]] += bool(told)
                none[question[0]] += not told
        self.assertGreater(min(some[word] for word in WORDS[:5]), 20)
        self.assertGreater(min(none[word] for word in WORDS[:5]), 20)


class AsItWas(unittest.TestCase):
    def test_what_is_handed_in_stays_and_asked_again(self):
        before = copy.deepcopy(NET)
        for text, question in QUESTIONS.items():
            told = answer(NET, question)
            self.assertEqual(answer(turned(NET), copy.deepcopy(question)), told)
            self.assertEqual((NET, list(NET[2])), (before, list(before[2])))
            self.assertEqual(read_question(text), question)
        for thing in [["at", ["a"]], ("all", ["a"], {"b": []}, ["c"]), ("at", "a", "b", [0, 1], ())]:
            before = copy.deepcopy(thing)
            self.assertIs(is_question(thing), False)
            self.assertRaises(NoText, read_question, thing)
            self.assertEqual(thing, before)

    def test_what_is_done_later_has_no_bearing(self):
        thing = copy.deepcopy(NET)
        told = answer(thing, read_question("all a c"))
        del thing[2]["x"]
        self.assertEqual(told, row("1 3 4; 2 4 4; 6 4 8; 8 9 11"))
        self.assertEqual(answer(thing, read_question("all a c")), row("8 3 11"))

    def test_moments_of_many_figures(self):
        t = m(Fraction(10 ** 60 + 1, 10 ** 59 + 7))
        self.assertEqual(answer(NET, ("at", "b", "c", t, ())), m(Fraction(*t) + 1))


if __name__ == "__main__":
    unittest.main()
