"""Tests of cabmeters.integers: point [2], True and False are not integers."""

import unittest

from cabmeters.integers import is_between, is_count, is_whole, number_in
from tests.samples import HUGE, no_integers


class IntegersTest(unittest.TestCase):
    def test_integers(self):
        for value in (-HUGE, -1, 0, 1, 9, HUGE, 10 ** 5000):
            with self.subTest(sign=value > 0):
                self.assertIs(is_whole(value), True)
                self.assertIs(is_count(value), value >= 0)
                self.assertIs(is_between(value, 0, 9), value in (0, 1, 9))

    def test_no_integers(self):
        for value in no_integers():
            with self.subTest(value=value):
                self.assertIs(is_whole(value), False)
                self.assertIs(is_count(value), False)
                self.assertIs(is_between(value, -HUGE, HUGE), False)

    def test_numbers_in_words(self):
        for number in range(130):
            with self.subTest(number=number):
                self.assertEqual(number_in(str(number), 60), number if number <= 60 else None)
                self.assertEqual(number_in(str(number), 99), number if number <= 99 else None)
                self.assertIsNone(number_in("0" + str(number), 2000))

    def test_words_without_a_number(self):
        for word in ("", " ", "x", "-1", "+1", "1 ", " 1", "1\n", "1_0", "1.", "\u0661", "\u00b2", "9" * 5000):
            with self.subTest(word=word):
                self.assertIsNone(number_in(word, 2000))


if __name__ == "__main__":
    unittest.main()
