import copy
import itertools
import random
import unittest
from fractions import Fraction

from hourstairs.errors import HourError, NoText, NotRight
from hourstairs.nets import is_net, stairs_of
from hourstairs.nettexts import net_text, read_net
from plain import m, row, some_rides
from plainnets import net, some_nets, turned

TEXT = "end 9\nwaits a c\ntie x a b\nride 3 5 4 8\nride 0 2 7/2 7/2\ntie y b a\nride 0 9 2 9\n"
NET = net(9, "a c", "x a b: 3 5 4 8; 0 2 7/2 7/2", "y b a: 0 9 2 9")
TEXTS = {
    TEXT: NET,
    "end 0\nwaits\n": net(0, ""),
    "end 17/2\nwaits\n": net("17/2", ""),
    "end 9\nwaits a\n": net(9, "a"),
    "end 9\nwaits a b c d e f g h i\n": net(9, "a b c d e f g h i"),
    "end 9\nwaits\ntie x a b\n": net(9, "", "x a b:"),
    "end 9\nwaits\ntie x a b\ntie y a b\nride 0 9 0 9\ntie z b a\n": net(9, "", "x a b:", "y a b: 0 9 0 9", "z b a:"),
    "end 9\nwaits\ntie x a b\nride 9 9 9 9\nride 9 9 9 9\n": net(9, "", "x a b: 9 9 9 9; 9 9 9 9"),
    "end 999999999999/2\nwaits abcdefgh\ntie zzzzzzzz abcdefgh z\nride 1/999999999999 2/3 2/3 4/5\n":
        net("999999999999/2", "abcdefgh", "zzzzzzzz abcdefgh z: 1/999999999999 2/3 2/3 4/5"),
}
WORDS_TEXT = "end 5\nwaits end ride tie waits\ntie end tie ride\nride 1 2 3 4\ntie tie waits end\ntie waits end tie\n"
WORDS_NET = net(5, "end ride tie waits", "end tie ride: 1 2 3 4", "tie waits end:", "waits end tie:")

LINES_TOLD_ELSEWHERE = [
    "waits a c\nend 9\n", "waits\n", "end 9\n", "end 9\nend 9\nwaits\n", "end 9\nwaits\nwaits\n", "end 9\nend 9\n",
    "waits\nwaits\n", "end 9\nwaits\nend 9\n", "end 9\ntie x a b\nwaits\n", "tie x a b\nend 9\nwaits\n",
    "end 9\ntie x a b\n", "end 9\nride 0 9 0 9\n", "tie x a b\n", "end 9\nwaits\ntie x a b\nwaits\n",
    "end 9\nwaits\ntie x a b\nend 9\n", "end 9\nwaits\ntie x a b\nride 0 9 0 9\nwaits\n"]
WORDS_MORE_OR_FEWER = [
    "end\nwaits\n", "end 9 9\nwaits\n", "end 9 waits\nwaits\n", "9\nwaits\n", "end 9\n\n", "end 9\na b\n", "end 9\nwait\n",
    "ends 9\nwaits\n", "End 9\nwaits\n", "end 9\nWaits\n", "end 9\nwaits\ntie x a\n", "end 9\nwaits\ntie x a b c\n",
    "end 9\nwaits\ntie x\n", "end 9\nwaits\ntie\n", "end 9\nwaits\nx a b\n", "end 9\nwaits\nties x a b\n",
    "end 9\nwaits\ntie x a b\nride 0 9 0\n", "end 9\nwaits\ntie x a b\nride 0 9 0 9 9\n", "end 9\nwaits\ntie x a b\nride\n",
    "end 9\nwaits\ntie x a b\n0 9 0 9\n", "end 9\nwaits\ntie x a b\nrides 0 9 0 9\n", "end 9\nwaits\ntie x a b\nx\n",
    "end 9\nwaits\ntie x a b ride 0 9 0 9\n", "end 9\nwaits\ntie x a b\nRide 0 9 0 9\n", "end 9\nwaits\n9\n",
    "end 9 \nwaits\n", "end 9\nwaits \n", "end 9\nwaits\ntie x a b \n", "end 9\nwaits\ntie x a b\nride 0 9 0 9 \n"]
BLANKS = [
    " end 9\nwaits\n", "end  9\nwaits\n", "end9\nwaits\n", "end\t9\nwaits\n", "end 9\n waits\n", "end 9\nwaits  a\n",
    "end 9\nwaits a  b\n", "end 9\nwaits ab c \n", "end 9\nwaitsa\n", "end 9\nwaits\n tie x a b\n",
    "end 9\nwaits\ntie  x a b\n", "end 9\nwaits\ntie x  a b\n", "end 9\nwaits\ntie xa b\n", "end 9\nwaits\ntie x ab\n",
    "end 9\nwaits\ntiex a b\n", "end 9\nwaits\ntie x a b\n ride 0 9 0 9\n", "end 9\nwaits\ntie x a b\nride  0 9 0 9\n",
    "end 9\nwaits\ntie x a b\nride 0 9  0 9\n", "end 9\nwaits\ntie x a b\nride 09 0 9\n", "end 9 waits\n", "end 9\nwaits a,b\n",
    "end 9\nwaits a\tb\n", "end\u00a09\nwaits\n", "end 9\nwaits\ntie x a b\nride 0\t9 0 9\n"]
LINE_FEEDS = [
    "end 9\nwaits", "end 9\nwaits a", "end 9\nwaits\ntie x a b", "end 9\nwaits\ntie x a b\nride 0 9 0 9", "end 9\nwaits\n\n",
    "\nend 9\nwaits\n", "end 9\n\nwaits\n", "end 9\nwaits\n\ntie x a b\n", "end 9\nwaits\ntie x a b\n\nride 0 9 0 9\n",
    "end 9\nwaits\ntie x a b\n\n", "end 9\r\nwaits\r\n", "end 9\rwaits\r", "end 9\x0bwaits\n", "end 9\u2028waits\n", "\n", "\n\n",
    "end\n9\nwaits\n", "end 9\nwaits\n\n\n", "end 9\nwaits\na\n", "end 9\nwaits\n ", "end 9\nwaits\ntie x a b\n "]
ORDER = [
    "end 9\nwaits\ntie y a b\ntie x a b\n", "end 9\nwaits\ntie x a b\ntie x a b\n", "end 9\nwaits\ntie x a b\ntie x b a\n",
    "end 9\nwaits\ntie x a b\ntie y a b\ntie x a b\n", "end 9\nwaits\ntie xa a b\ntie x a b\n",
    "end 9\nwaits\ntie x a b\ntie z a b\ntie y a b\n", "end 9\nwaits\nride 0 9 0 9\n",
    "end 9\nwaits\nride 0 9 0 9\ntie x a b\n", "end 9\nride 0 9 0 9\nwaits\ntie x a b\n"]
WAITS = ["end 9\nwaits b a\n", "end 9\nwaits a a\n", "end 9\nwaits a b b\n", "end 9\nwaits a c b\n",
         "end 9\nwaits ab a\n"]
NAMES = ["A", "aB", "a1", "1", "abcdefghi", "a-b", "a_b", "\u00e9", "\uff41", "a\u0301", "'a'", "()", "7/2"]
MOMENTS = ["09", "+9", "-9", "9.0", "18/2", "9/1", "9/", "/9", "9/0", "0/9", "00", "a", "1e1", "9_0", "\u0669",
           "\u00b2", "x", "()"]
RIDES = ["5 3 6 6", "3 5 2 8", "3 5 4 4", "3 3 4 5", "3 3 5 4", "9/2 4 5 5", "0 9 9 17/2"]
TOO_LATE = ["0 10 9 20", "10 10 10 10", "0 19/2 0 19/2", "0 9000001/1000000 9 20"]
NOT_EVEN_TEXTS = [None, True, False, 0, 5, (), [], {}, NET, [TEXT], (TEXT,), TEXT.encode(), b"", {TEXT: NET}, {TEXT},
                  object(),
                  str, len, range(3), NoText(TEXT), TEXT.split("\n"), 10 ** 5000]


def one_tie(name="x", a="a", b="b", ride="0 9 0 9", end="9"):
    return f"end {end}\nwaits\ntie {name} {a} {b}\nride {ride}\n"


class ThereAndBack(unittest.TestCase):
    def assert_both(self, text, thing):
        self.assertEqual(net_text(thing), text)
        told = read_net(text)
        self.assertEqual(told, thing)
        self.assertIs(is_net(told), True)
        self.assertEqual(list(told[2]), sorted(thing[2]))

    def test_texts(self):
        for text, thing in TEXTS.items():
            self.assert_both(text, thing)

    def test_ties_in_another_order(self):
        for names in itertools.permutations(["w", "x", "xa", "b"]):
            thing = (m(9), (), {name: ("p", "q", row("0 9 0 9") if name == "x" else ()) for name in names})
            self.assert_both("end 9\nwaits\ntie b p q\ntie w p q\ntie x p q\nride 0 9 0 9\ntie xa p q\n", thing)

    def test_rides_in_their_own_order(self):
        rides = row("3 5 4 8; 0 2 5 5; 3 5 4 8; 9 9 9 9")
        for order in itertools.permutations(rides):
            thing = (m(9), ("a",), {"x": ("a", "b", order)})
            lines = ["ride " + " ".join(str(Fraction(*part)) for part in ride) + "\n" for ride in order]
            self.assert_both("end 9\nwaits a\ntie x a b\n" + "".join(lines), thing)

    def test_names_that_are_words_of_the_text(self):
        self.assert_both(WORDS_TEXT, WORDS_NET)

    def test_one_that_is_not_right(self):
        thing = net(9, "", "x a b: 3 5 4 8")
        self.assertRaises(NotRight, stairs_of, thing)
        self.assert_both("end 9\nwaits\ntie x a b\nride 3 5 4 8\n", thing)

    def test_ten_ties_of_eight_rides(self):
        chance = random.Random(31)
        ties = {}
        for name in "jihgfedcba":
            a, b = chance.sample("pqrstuvwx", 2)
            rides = [[at + Fraction(chance.randrange(10 ** 11), 10 ** 11 + 3) for part in "four"] for at in range(8)]
            ties[name] = (a, b, tuple(tuple(m(moment) for moment in sorted(ride)) for ride in rides))
        thing = (m(10 ** 11), tuple("pqrstuvwx"), ties)
        self.assertIs(is_net(thing), True)
        self.assertEqual(net_text(thing).count("\n"), 92)
        self.assertGreater(len(net_text(thing)), 5002)
        self.assert_both(net_text(thing), thing)

    def test_some_nets(self):
        for thing in some_nets(41, 60):
            self.assert_both(net_text(turned(thing)), thing)

    def test_forty_rides(self):
        thing = (m(30), ("a",), {"x": ("a", "b", some_rides(random.Random(4), 1) * 40)})
        self.assertEqual(net_text(thing).count("\n"), 43)
        self.assert_both(net_text(thing), thing)


class Refused(unittest.TestCase):
    def assert_refused(self, *texts):
        for text in texts:
            with self.assertRaises(NoText, msg=repr(text[:200])):
                read_net(text)

    def test_lines_left_out_told_twice_or_elsewhere(self):
        self.assert_refused(*LINES_TOLD_ELSEWHERE)
        lines = TEXT.splitlines(keepends=True)
        for at in range(2):
            self.assert_refused("".join(lines[:at] + lines[at + 1:]),
                                "".join(lines[:at] + lines[at:at + 1] * 2 + lines[at + 1:]))
        for order in itertools.permutations(range(4)):
            if order != (0, 1, 2, 3):
                self.assert_refused("".join(lines[at] for at in order) + "".join(lines[4:]))

    def test_words_more_or_fewer(self):
        self.assert_refused(*WORDS_MORE_OR_FEWER)

    def test_blanks_more_or_fewer(self):
        self.assert_refused(*BLANKS)
        for at in [at for at, sign in enumerate(TEXT) if sign == " "]:
            self.assert_refused(TEXT[:at] + " " + TEXT[at:], TEXT[:at] + "\n" + TEXT[at + 1:])
            if not TEXT[at:].startswith(" c\n"):
                self.assert_refused(TEXT[:at] + TEXT[at + 1:])

    def test_line_feeds(self):
        self.assert_refused(*LINE_FEEDS)
        for text in TEXTS:
            self.assert_refused(text[:-1], text + "\n", "\n" + text, text + " ", text[:-1] + " ", text[:-1] + " \n")
        for at in [at for at, sign in enumerate(TEXT) if sign == "\n"]:
            self.assert_refused(TEXT[:at] + "\n" + TEXT[at:], TEXT[:at] + " " + TEXT[at + 1:],
                                TEXT[:at] + TEXT[at + 1:])

    def test_order_of_ties_and_rides(self):
        self.assert_refused(*ORDER)

    def test_waits(self):
        self.assert_refused(*WAITS)

    def test_names(self):
        for name in NAMES:
            self.assert_refused(one_tie(name=name), one_tie(a=name), one_tie(b=name), f"end 9\nwaits {name}\n",
                                f"end 9\nwaits a {name}\n", f"end 9\nwaits {name} z\n")
        self.assert_refused(one_tie(name=""), one_tie(a=""), one_tie(b=""))

    def test_from_a_place_to_itself(self):
        self.assert_refused(one_tie(b="a"), one_tie(a="b"), one_tie(a="x", b="x"),
                            one_tie(a="a", b="a", ride="9 9 9 9"))
        self.assertEqual(read_net(one_tie(a="x")), net(9, "", "x x b: 0 9 0 9"))

    def test_moments(self):
        for moment in MOMENTS + [""]:
            self.assert_refused(f"end {moment}\nwaits\n", one_tie(end=moment))
            for at in range(4):
                ride = ["9", "9", "9", "9"]
                ride[at] = moment
                self.assert_refused(one_tie(ride=" ".join(ride)))

    def test_rides(self):
        for ride in RIDES + TOO_LATE:
            self.assert_refused(one_tie(ride=ride), one_tie(ride="0 9 0 9\nride " + ride),
                                one_tie(ride=ride + "\nride 0 9 0 9"))
        self.assertEqual(read_net(one_tie(ride="0 19/2 0 19/2", end="19/2")), net("19/2", "", "x a b: 0 19/2 0 19/2"))

    def test_others(self):
        self.assert_refused("", " ", "~", "never", "never\n", "end", "end 9", "end 9\n", " " * 5002, "\n" * 5002,
                            "end 9\nwaits\n" * 2,
                            "end 9\nwaits\n" + "tie x a b\n" * 400, "end " + "9" * 4990 + "\n", "end 9\nwaits" + " a" * 2000 + "\n")

    def test_not_even_texts(self):
        for at, thing in enumerate(NOT_EVEN_TEXTS):
            with self.assertRaises(NoText, msg=at):
                read_net(thing)

    def test_refused_under_hour_error(self):
        self.assertRaises(HourError, read_net, "end 9\n")

    def test_each_sign_left_out_put_in_or_changed(self):
        """What is read is told as the very text that was read, whatever was done to it."""
        read = 0
        for text in [TEXT, WORDS_TEXT]:
            for at, sign in itertools.product(range(len(text) + 1),
                                              ["", " ", "\n", "/", "0", "7", "b", "tie", "\nride 1 1 1 1"]):
                for other in (text[:at] + sign + text[at:], text[:at] + sign + text[at + 1:]):
                    try:
                        thing = read_net(other)
                    except NoText:
                        continue
                    read += 1
                    self.assertIs(is_net(thing), True, other)
                    self.assertEqual(net_text(thing), other)
        self.assertGreater(read, 200)

    def test_longest_texts(self):
        text = "end " + "7" * 4991 + "\nwaits\n"
        self.assertEqual(len(text), 5002)
        self.assertTrue(net_text(read_net(text)) == text)


class AsItWas(unittest.TestCase):
    def test_what_is_handed_in_stays(self):
        for thing in [copy.deepcopy(NET), turned(NET), [TEXT], {"end": [9]}]:
            before = copy.deepcopy(thing)
            if isinstance(thing, tuple):
                order = list(thing[2])
                net_text(thing)
                self.assertEqual(list(thing[2]), order)
            self.assertRaises(NoText, read_net, thing)
            self.assertEqual(thing, before)

    def test_what_is_done_later_has_no_bearing(self):
        thing = copy.deepcopy(NET)
        text = net_text(thing)
        del thing[2]["x"]
        self.assertEqual(text, TEXT)
        self.assertEqual(net_text(thing), "end 9\nwaits a c\ntie y b a\nride 0 9 2 9\n")

    def test_the_ties_are_the_askers_own(self):
        told = read_net(TEXT)
        told[2].clear()
        self.assertEqual(read_net(TEXT), NET)

    def test_asked_again(self):
        for text, thing in TEXTS.items():
            self.assertEqual(net_text(thing), net_text(turned(thing)))
            self.assertEqual(read_net(text), read_net(text))


if __name__ == "__main__":
    unittest.main()
