import unittest

from hourstairs.errors import HourError, NoDay, NoText, NoTie, NotRight, Overtaken

FIVE = (NoText, Overtaken, NotRight, NoTie, NoDay)
HUGE = (10 ** 5000, 1)


class Classes(unittest.TestCase):
    def test_hour_error_is_a_value_error(self):
        self.assertTrue(issubclass(HourError, ValueError))

    def test_each_is_under_hour_error_and_none_under_another(self):
        for one in FIVE:
            self.assertTrue(issubclass(one, HourError))
            self.assertIsNot(one, HourError)
            for other in FIVE:
                self.assertEqual(issubclass(one, other), one is other)


class Values(unittest.TestCase):
    def test_overtaken(self):
        error = Overtaken((1, 2), (3, 1))
        self.assertEqual((error.first, error.second), ((1, 2), (3, 1)))

    def test_not_right(self):
        error = NotRight("ab", (1, 2), (3, 1))
        self.assertEqual((error.name, error.first, error.second), ("ab", (1, 2), (3, 1)))

    def test_no_tie_and_no_day(self):
        self.assertEqual(NoTie("ab").name, "ab")
        self.assertEqual(NoDay("cd").name, "cd")

    def test_words_can_be_shown_whatever_the_size_of_the_values(self):
        for error in (Overtaken(HUGE, HUGE), NotRight("ab", HUGE, HUGE)):
            self.assertNotEqual(str(error), "")
            self.assertNotEqual(repr(error), "")


if __name__ == "__main__":
    unittest.main()
