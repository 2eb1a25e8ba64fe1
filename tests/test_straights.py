import random
import unittest
from fractions import Fraction

from hourstairs.straights import on_straight
from plain import m


class OnStraight(unittest.TestCase):
    def test_ends_and_between(self):
        for near, far, x, told in [((0, 3), (5, 8), 0, 3), ((0, 3), (5, 8), 5, 8), ((0, 3), (5, 8), "5/2", "11/2"),
                                   ((3, 9), (5, 6), 4, "15/2"), ((3, 9), (5, 6), 5, 6), ((1, 4), (2, 4), "4/3", 4),
                                   (("1/2", 0), ("2/3", 0), "3/5", 0)]:
            points = [(m(point[0]), m(point[1])) for point in (near, far)]
            self.assertEqual(on_straight(points[0], points[1], m(x)), m(told))

    def test_some(self):
        chance = random.Random(4)

        def some():
            return Fraction(chance.randrange(10 ** 12), chance.randrange(1, 10 ** 12))
        for at in range(300):
            near, far = sorted([some(), some()])
            low, high, part = some(), some(), Fraction(chance.randrange(1001), 1000)
            told = on_straight((m(near), m(low)), (m(far), m(high)), m(near + (far - near) * part))
            self.assertEqual(told, m(low + (high - low) * part))


if __name__ == "__main__":
    unittest.main()
