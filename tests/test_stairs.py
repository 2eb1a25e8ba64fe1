import copy
import unittest
from fractions import Fraction

from hourstairs.stairs import coming, is_row, is_stair, last, latest, lean, staying
from plain import NO_MOMENTS, m, moments_of, plain_coming, row, some_rows

NO_TUPLES = [None, True, False, 0, 5, "", "never", "5 3 8", b"", [], {}, {(): ()}, set(), range(0), object(), len,
             [((5, 1), (5, 1), (8, 1))]]

RIGHT_AND_LEAN = ["", "5 3 8; 9 8 9", "5 5 8; 9 11 11", "0 0 0", "0 4 4", "0 4 4; 5 6 8", "5 5 5", "5 0 5", "5 0 9",
                  "0 3 3; 7/2 4 4", "5 9 9; 7 9 10; 8 10 12", "5 9 9; 7 10 10", "1/2 1/2 1/2; 2/3 2/3 5/6",
                  "5 0 5; 9 8 12"]
RIGHT_NOT_LEAN = ["5 3 8; 9 8 12", "0 4 4; 5 4 8", "0 5 5; 5 5 5", "0 0 0; 5 0 5", "5 9 9; 7 9 9", "5 0 5; 9 5 9",
                  "1 9 9; 5 9 11; 9 11 13", "0 3 3; 2 4 4; 3 4 5; 4 5 6", "3/2 0 9/4; 2 9/4 3", "0 4 4; 5 4 5; 6 5 7"]
NOT_RIGHT = {
    "an end is the one ahead": ["5 5 8; 5 8 8", "0 0 0; 0 0 0", "0 4 4; 0 5 5", "3 3 3; 5 5 8; 5 9 9"],
    "an end is below the one ahead": ["5 5 8; 4 8 9", "5 5 8; 0 8 8", "3 3 3; 5 5 8; 9/2 9 9"],
    "a first end is 0 and its low not its high": ["0 0 1", "0 3 4", "0 3 4; 5 4 8"],
    "a low is above its high": ["5 9 8", "5 5 8; 9 11 10", "0 4 3"],
    "a low is below the high ahead": ["5 5 8; 9 7 9", "5 5 8; 9 15/2 9", "5 5 8; 9 5 9", "0 4 4; 5 3 8"],
    "a low is below its beginning": ["5 5 8; 9 4 9", "5 4 4; 9 4 9"],
    "a high is below its end": ["5 0 4", "5 5 8; 9 8 17/2", "5 0 0", "1/2 0 1/3"],
}


class Rows(unittest.TestCase):
    def test_right_and_lean(self):
        for text in RIGHT_AND_LEAN:
            self.assertIs(is_row(row(text)), True, text)
            self.assertIs(is_stair(row(text)), True, text)

    def test_right_and_not_lean(self):
        for text in RIGHT_NOT_LEAN:
            self.assertIs(is_row(row(text)), True, text)
            self.assertIs(is_stair(row(text)), False, text)

    def test_not_right(self):
        for why, texts in NOT_RIGHT.items():
            for text in texts:
                self.assertIs(is_row(row(text)), False, why + ": " + text)
                self.assertIs(is_stair(row(text)), False, why + ": " + text)

    def test_never(self):
        self.assertIs(is_row(()), True)
        self.assertIs(is_stair(()), True)

    def assert_neither(self, thing):
        self.assertIs(is_row(thing), False, thing)
        self.assertIs(is_stair(thing), False, thing)

    def test_no_tuples(self):
        for thing in NO_TUPLES:
            self.assert_neither(thing)
        self.assert_neither(list(row("5 3 8; 9 8 9")))

    def test_no_pieces(self):
        five, eight = m(5), m(8)
        for piece in [[five, five, eight], (five, eight), (five, five, eight, eight), (five,), (), [], None, 5, "",
                      "5 5 8", {}, {five: five, eight: eight, m(9): 1}, True, five]:
            self.assert_neither((piece,))
            self.assert_neither((piece, (m(9), m(11), m(11))))
            self.assert_neither(((m(1), m(1), m(1)), piece))

    def test_no_moments(self):
        for thing in NO_MOMENTS:
            for at in range(3):
                piece = [m(5), m(5), m(8)]
                piece[at] = thing
                self.assert_neither((tuple(piece),))
                self.assert_neither((tuple(piece), (m(9), m(11), m(11))))
                self.assert_neither(((m(1), m(1), m(1)), tuple(piece)))

    def test_a_piece_alone_is_no_row(self):
        self.assert_neither((m(5), m(5), m(8)))


class Lean(unittest.TestCase):
    def test_of_a_stair_the_stair_itself(self):
        for text in RIGHT_AND_LEAN:
            self.assertEqual(lean(row(text)), row(text))

    def test_one_straight_made_one(self):
        for text, told in [("5 3 8; 9 8 12", "9 3 12"), ("5 9 9; 7 9 9", "7 9 9"), ("5 0 5; 9 5 9", "9 0 9"),
                           ("1 1 1; 2 2 2; 3 2 3; 4 3 4; 6 4 6", "1 1 1; 2 2 2; 6 2 6"),
                           ("2 2 2; 3 2 3; 4 3 4; 5 4 6; 6 6 8", "2 2 2; 4 2 4; 6 4 8"),
                           ("3/2 0 9/4; 2 9/4 3", "2 0 3"), ("1 9 9; 5 9 11; 9 11 13; 10 13 13", "1 9 9; 9 9 13; 10 13 13")]:
            self.assertEqual(lean(row(text)), row(told), text)

    def test_alike_rise_behind_a_jump_stays(self):
        self.assertEqual(lean(row("5 0 5; 9 8 12")), row("5 0 5; 9 8 12"))

    def test_first_end_nought(self):
        for text, told in [("0 4 4; 5 4 8", "5 4 8"), ("0 5 5; 5 5 5", "5 5 5"), ("0 0 0; 5 0 5; 9 5 9", "9 0 9"),
                           ("0 4 4; 5 5 8", "0 4 4; 5 5 8"), ("0 4 4; 5 5 8; 7 8 46/5", "0 4 4; 7 5 46/5"),
                           ("0 4 4; 5 4 5; 6 5 7", "5 4 5; 6 5 7"), ("0 4 4", "0 4 4")]:
            self.assertEqual(lean(row(text)), row(told), text)

    def test_some_rows(self):
        changed = 0
        for pieces in some_rows():
            self.assertIs(is_row(pieces), True, pieces)
            told = lean(pieces)
            changed += told != pieces
            self.assertIs(type(told), tuple)
            self.assertIs(is_stair(told), True, pieces)
            self.assertIs(is_stair(pieces), told == pieces)
            self.assertEqual(lean(told), told)
            for t in moments_of(pieces):
                self.assertEqual(plain_coming(told, t), plain_coming(pieces, t), (pieces, t))
        self.assertGreater(changed, 100)

    def test_cut_anywhere_it_is_the_same_stair(self):
        for pieces in some_rows():
            stair, cut, beginning = lean(pieces), [], Fraction(0)
            for at, (end, low, high) in enumerate(stair):
                middle = (beginning + Fraction(*end)) / 2
                if at == 0:
                    cut.append((m(0), low, low))
                if end != m(0):
                    cut.append((m(middle), low, m(plain_coming(stair, middle))))
                    cut.append((end, cut[-1][2], high))
                beginning = Fraction(*end)
            self.assertIs(is_row(tuple(cut)), True)
            self.assertEqual(lean(tuple(cut)), stair)


class Coming(unittest.TestCase):
    def assert_comes(self, text, *told):
        for t, value in told:
            self.assertEqual(coming(row(text), m(t)), value and m(value), (text, t))

    def test_at_and_between_ends(self):
        self.assert_comes("5 3 8; 9 8 9", (0, "3"), (1, "4"), ("5/2", "11/2"), (5, "8"), (6, "33/4"), (7, "17/2"),
                          (9, "9"), ("91/10", None), (10, None))

    def test_at_an_end_at_which_a_jump_follows(self):
        self.assert_comes("5 5 8; 9 11 13", (0, "5"), (5, "8"), ("5000001/1000000", "22000001/2000000"), (7, "12"),
                          (9, "13"))

    def test_on_flat_pieces(self):
        self.assert_comes("5 9 9; 7 11 11", (0, "9"), ("1/3", "9"), (5, "9"), (6, "11"), (7, "11"), (8, None))

    def test_first_end_nought(self):
        self.assert_comes("0 4 4", (0, "4"), ("1/1000000", None), (1, None))
        self.assert_comes("0 4 4; 5 6 8", (0, "4"), ("1/2", "31/5"), (5, "8"), (6, None))

    def test_never(self):
        for t in (0, 1, "7/2", 10 ** 12):
            self.assertIsNone(coming((), m(t)))

    def test_some_stairs(self):
        for pieces in some_rows():
            stair = lean(pieces)
            for t in moments_of(pieces):
                value = plain_coming(stair, t)
                self.assertEqual(coming(stair, m(t)), None if value is None else m(value), (stair, t))

    def test_twelve_figures(self):
        big = 999999999999
        stair = ((m(Fraction(big, big - 1)), m(Fraction(1, big)), m(Fraction(big, 7))), (m(big), m(big), m(big)))
        self.assertIs(is_stair(stair), True)
        for t in moments_of(stair):
            value = plain_coming(stair, t)
            self.assertEqual(coming(stair, m(t)), None if value is None else m(value))

    def test_told_moments_may_be_handed_in_again(self):
        t = m(1)
        stair = (((999999999999, 999999999998), m(Fraction(1, 7)), (999999999989, 999999999961)),)
        stair = (stair[0][:2] + (m(Fraction(*stair[0][0]) + Fraction(*stair[0][2])),),)
        for at in range(8):
            value = plain_coming(stair, Fraction(*t) / 3)
            t = coming(stair, m(Fraction(*t) / 3))
            self.assertEqual(t, m(value))


class Last(unittest.TestCase):
    def test_last(self):
        for text, told in [("5 3 8; 9 8 9", 9), ("5 5 8", 5), ("0 4 4", 0), ("0 4 4; 7/2 5 5", "7/2")]:
            self.assertEqual(last(row(text)), m(told))

    def test_never(self):
        self.assertIsNone(last(()))


class Staying(unittest.TestCase):
    def test_staying(self):
        for end in (0, 1, "7/2", 999999999999):
            self.assertEqual(staying(m(end)), ((m(end), (0, 1), m(end)),))
            self.assertIs(is_stair(staying(m(end))), True)
            self.assertEqual(coming(staying(m(end)), m(end)), m(end))
            self.assertEqual(latest(staying(m(end)), m(10 ** 12)), m(end))
        self.assertEqual(coming(staying(m(9)), m("7/2")), m("7/2"))
        self.assertIsNone(coming(staying(m(0)), m(1)))


class Latest(unittest.TestCase):
    def assert_latest(self, text, *told):
        for y, value in told:
            self.assertEqual(latest(row(text), m(y)), None if value is None else m(value), (text, y))

    def test_between(self):
        self.assert_latest("5 3 8; 9 8 9", (3, 0), (4, 1), ("11/2", "5/2"), (8, 5), ("17/2", 7), (9, 9), (100, 9))

    def test_at_a_jump(self):
        self.assert_latest("5 5 8; 9 11 13", (8, 5), (9, 5), ("21/2", 5), (11, 5), ("23/2", 6), (13, 9), (14, 9))
        self.assert_latest("5 5 8; 9 11 11", ("109/10", 5), (11, 9), (12, 9))

    def test_on_a_flat_piece(self):
        self.assert_latest("5 9 9; 7 11 11; 8 12 12", (9, 5), (10, 5), (11, 7), ("23/2", 7), (12, 8), (99, 8))
        self.assert_latest("5 9 9; 7 9 10", (9, 5), ("19/2", 6))
        self.assert_latest("5 4 9; 7 9 9", (9, 7), (8, 4))

    def test_later_from_the_beginning_on(self):
        self.assert_latest("5 3 8; 9 8 9", (0, None), ("299/100", None), (3, 0))
        self.assert_latest("5 9 9", (8, None), (9, 5))

    def test_first_end_nought(self):
        self.assert_latest("0 4 4", (3, None), (4, 0), (5, 0))
        self.assert_latest("0 4 4; 5 6 8", (3, None), (4, 0), (5, 0), (6, 0), (7, "5/2"), (8, 5), (9, 5))
        self.assert_latest("0 0 0", (0, 0), (1, 0))

    def test_never(self):
        for y in (0, 5, 10 ** 12):
            self.assertIsNone(latest((), m(y)))

    def test_some_stairs(self):
        for pieces in some_rows():
            stair = lean(pieces)
            values = [Fraction(*part) for piece in stair for part in piece[1:]] or [Fraction(1)]
            asked = {value + by for value in values for by in (0, Fraction(1, 5)) if value + by >= 0}
            asked |= {(one + other) / 2 for one, other in zip(values, values[1:])} | {Fraction(0)}
            for y in sorted(asked):
                self.assert_last_of_all(stair, y)

    def assert_last_of_all(self, stair, y):
        told = latest(stair, m(y))
        if told is not None:
            self.assertLessEqual(plain_coming(stair, Fraction(*told)), y)
        bound = Fraction(-1) if told is None else Fraction(*told)
        for t in moments_of(stair) + [bound + Fraction(1, 10 ** 12)]:
            value = plain_coming(stair, t) if t >= 0 else None
            if value is not None and t > bound:
                self.assertGreater(value, y, (stair, y, t))


class AsItWas(unittest.TestCase):
    def test_what_is_handed_in_stays(self):
        things = [row(text) for text in RIGHT_AND_LEAN + RIGHT_NOT_LEAN]
        before = copy.deepcopy(things)
        for thing in things:
            self.ask(thing)
        self.assertEqual(things, before)

    def test_lists_that_are_asked_of_stay(self):
        thing = [[[5, 1], [5, 1], [8, 1]]]
        for asked in (thing, tuple(thing), (tuple(thing[0]),)):
            before = copy.deepcopy(asked)
            self.assertIs(is_row(asked), False)
            self.assertIs(is_stair(asked), False)
            self.assertEqual(asked, before)

    def test_asked_again(self):
        for pieces in some_rows():
            self.assertEqual(self.ask(pieces), self.ask(pieces))

    def ask(self, pieces):
        stair = lean(pieces)
        told = [is_row(pieces), is_stair(pieces), stair, last(stair)]
        for y in range(12):
            told.append((coming(stair, m(y)), latest(stair, m(y)), staying(m(y))))
        return told


if __name__ == "__main__":
    unittest.main()
