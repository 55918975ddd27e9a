"""Tests of cabmeters.tables: points [8] to [11], and points [3] and [4] for tables."""

import unittest

from cabmeters.errors import BadNumber, BadSpeed, BadText, BadTrip, BadWorths
from cabmeters.tables import Table, both_of, count_of, either_of
from tests.samples import HUGE, caught, check_given, no_integers, no_strings, plain_table

MIXED = [60, 0, 7, 59, 1, 10, 60, 0, 33, 2]
NO_SPEEDS = (-1, 10, 11, 100, HUGE, -HUGE)
NO_COUNTS = (-1, -2, -60, -HUGE)


def with_worth(worth, place):
    """Return a list of ten worths but for one item."""
    return [worth if at == place else at for at in range(10)]


def wrong_worths():
    """Return a list of values of which none is a list of ten worths."""
    wrong = [value for value in no_strings() if value != [1] * 10]
    wrong += ["", "0123456789", "0 1 2 3 4 5 6 7 8 9", tuple(range(10)), {at: at for at in range(10)}]
    wrong += [[1] * 9, [1] * 11, [[1] * 10], list(range(10)) + [None], ["1"] * 10, [None] * 10]
    for worth in no_integers() + [-1, 61, 62, HUGE, -HUGE, [5], (5,)]:
        wrong += [with_worth(worth, place) for place in (0, 5, 9)]
    return wrong


class TableTest(unittest.TestCase):
    def test_worths(self):
        for worths in ([0] * 10, [60] * 10, list(range(10)), MIXED):
            with self.subTest(worths=worths):
                table = Table(worths)
                self.assertEqual(table.worths, worths)
                self.assertEqual([table[speed] for speed in range(10)], worths)
                self.assertIs(type(table.worths), list)

    def test_edges_of_worths(self):
        for place in range(10):
            for worth in (0, 1, 59, 60):
                self.assertEqual(Table(with_worth(worth, place))[place], worth)
            for worth in (-1, 61):
                wrong = with_worth(worth, place)
                check_given(self, BadWorths, wrong, Table, wrong)

    def test_wrong_worths(self):
        for value in wrong_worths():
            check_given(self, BadWorths, value, Table, value)

    def test_wrong_speeds(self):
        table = plain_table()
        for value in no_integers() + list(NO_SPEEDS):
            check_given(self, BadSpeed, value, lambda speed: table[speed], value)
        self.assertEqual(table.worths, plain_table().worths)

    def test_no_iteration(self):
        self.assertRaises(TypeError, list, plain_table())

    def test_argument_is_copied_and_not_modified(self):
        worths = list(MIXED)
        table = Table(worths)
        self.assertEqual(worths, MIXED)
        worths[0] = 5
        worths.append(1)
        self.assertEqual(table.worths, MIXED)
        self.assertEqual(table[0], 60)
        self.assertEqual(table.text(), "60 0 7 59 1 10 60 0 33 2")

    def test_returned_list_is_new(self):
        table = Table(MIXED)
        returned = table.worths
        self.assertIsNot(returned, table.worths)
        returned[0] = 5
        returned.clear()
        self.assertEqual(table.worths, MIXED)
        self.assertEqual(table[0], 60)
        self.assertTrue(table.same(Table(MIXED)))

    def test_wrong_argument_is_not_modified(self):
        worths = with_worth(61, 4)
        self.assertRaises(BadWorths, Table, worths)
        self.assertEqual(worths, with_worth(61, 4))

    def test_same(self):
        self.assertIs(Table(MIXED).same(Table(MIXED)), True)
        table = Table(MIXED)
        self.assertIs(table.same(table), True)
        for place in range(10):
            other = list(MIXED)
            other[place] = 3
            self.assertIs(table.same(Table(other)), False)
            self.assertIs(Table(other).same(table), False)
        self.assertIs(table.same(Table(list(reversed(MIXED)))), False)


class KindsOfTablesTest(unittest.TestCase):
    def test_either(self):
        self.assertEqual(Table.either(6, 2).worths, [6, 6, 6, 6, 8, 10, 12, 14, 16, 18])
        self.assertEqual(Table.either(0, 0).worths, [0] * 10)
        self.assertEqual(Table.either(60, 6).worths, [60] * 10)
        self.assertEqual(Table.either(0, 6).worths, [0, 6, 12, 18, 24, 30, 36, 42, 48, 54])
        self.assertEqual(Table.either(60, 0).worths, [60] * 10)

    def test_both(self):
        self.assertEqual(Table.both(3, 1).worths, [3, 4, 5, 6, 7, 8, 9, 10, 11, 12])
        self.assertEqual(Table.both(0, 0).worths, [0] * 10)
        self.assertEqual(Table.both(60, 0).worths, [60] * 10)
        self.assertEqual(Table.both(6, 6).worths, [6, 12, 18, 24, 30, 36, 42, 48, 54, 60])

    def test_changing(self):
        self.assertEqual(Table.changing(5, 2, 4).worths, [5, 5, 5, 5, 8, 10, 12, 14, 16, 18])
        self.assertEqual(Table.changing(5, 2, 9).worths, [5] * 9 + [18])
        self.assertEqual(Table.changing(5, 2, 0).worths, [0, 2, 4, 6, 8, 10, 12, 14, 16, 18])
        self.assertEqual(Table.changing(5, 0, 2).worths, [5, 5] + [0] * 8)
        self.assertEqual(Table.changing(60, 6, 1).worths, [60, 6, 12, 18, 24, 30, 36, 42, 48, 54])

    def test_a_number_for_no_speed_may_be_of_any_size(self):
        # With the speed 0 no worth is the time, so that none of the ten worths is above 60.
        for time in (61, HUGE):
            self.assertEqual(Table.changing(time, 1, 0).worths, list(range(10)))

    def test_kind_of_object(self):
        for table in (Table.either(1, 1), Table.both(1, 1), Table.changing(1, 1, 1), Table.read("1 1 1 1 1 1 1 1 1 1")):
            self.assertIs(type(table), Table)

    def test_wrong_numbers(self):
        for value in no_integers() + list(NO_COUNTS):
            check_given(self, BadNumber, value, Table.either, value, 1)
            check_given(self, BadNumber, value, Table.either, 1, value)
            check_given(self, BadNumber, value, Table.both, value, 1)
            check_given(self, BadNumber, value, Table.both, 1, value)
            check_given(self, BadNumber, value, Table.changing, value, 1, 5)
            check_given(self, BadNumber, value, Table.changing, 1, value, 5)

    def test_wrong_speed(self):
        for value in no_integers() + list(NO_SPEEDS):
            check_given(self, BadSpeed, value, Table.changing, 5, 2, value)

    def test_too_great_worths(self):
        for call, arguments, worths in (
            (Table.either, (61, 0), [61] * 10),
            (Table.either, (0, 7), [7 * speed for speed in range(10)]),
            (Table.either, (60, 7), [60] * 9 + [63]),
            (Table.either, (HUGE, 1), [HUGE] * 10),
            (Table.either, (1, HUGE), [1] + [HUGE * speed for speed in range(1, 10)]),
            (Table.both, (61, 0), [61] * 10),
            (Table.both, (7, 6), [7 + 6 * speed for speed in range(10)]),
            (Table.both, (0, 7), [7 * speed for speed in range(10)]),
            (Table.both, (HUGE, HUGE), [HUGE + HUGE * speed for speed in range(10)]),
            (Table.changing, (61, 0, 1), [61] + [0] * 9),
            (Table.changing, (5, 7, 9), [5] * 9 + [63]),
            (Table.changing, (61, 1, 9), [61] * 9 + [9]),
            (Table.changing, (5, HUGE, 5), [5] * 5 + [HUGE * speed for speed in range(5, 10)]),
        ):
            with self.subTest(call=call, arguments=arguments):
                given = caught(self, BadWorths, call, *arguments).given
                self.assertIs(type(given), list)
                self.assertEqual(given, worths)

    def test_the_error_that_is_listed_first(self):
        for first in (None, -1, True, "5", [5]):
            for second in (None, -2, False, 7, HUGE):
                check_given(self, BadNumber, first, Table.either, first, second)
                check_given(self, BadNumber, first, Table.both, first, second)
                for third in (None, 10, 5):
                    check_given(self, BadNumber, first, Table.changing, first, second, third)
        for second in (None, -2, False):
            check_given(self, BadNumber, second, Table.either, 61, second)
            check_given(self, BadNumber, second, Table.both, 61, second)
            check_given(self, BadNumber, second, Table.changing, 61, second, None)
            check_given(self, BadNumber, second, Table.changing, 61, second, 5)
        for third in (None, -1, 10, True, "5"):
            check_given(self, BadSpeed, third, Table.changing, 61, HUGE, third)


class NumbersOfTablesTest(unittest.TestCase):
    def test_either_of_all_tables(self):
        least = {}
        for time in range(61):
            for way in range(7):
                least.setdefault(tuple(Table.either(time, way).worths), (time, way))
        for worths, told in least.items():
            self.assertEqual(either_of(Table(list(worths))), told)

    def test_both_of_all_tables(self):
        for time in range(61):
            for way in range((60 - time) // 9 + 1):
                self.assertEqual(both_of(Table.both(time, way)), (time, way))

    def test_least_way(self):
        self.assertEqual(either_of(Table.either(60, 6)), (60, 0))
        self.assertEqual(either_of(Table.either(9, 1)), (9, 0))
        self.assertEqual(either_of(Table.either(8, 1)), (8, 1))
        self.assertEqual(either_of(Table.read("7 7 7 7 7 7 7 7 7 7")), (7, 0))
        self.assertEqual(either_of(Table([0] * 10)), (0, 0))

    def test_none(self):
        self.assertIsNone(both_of(plain_table()))
        self.assertIsNone(either_of(Table.both(3, 1)))
        for worths in (MIXED, list(range(9, -1, -1)), [0] * 9 + [1], [1] + [0] * 9, [6, 5, 6, 6, 8, 10, 12, 14, 16, 18]):
            with self.subTest(worths=worths):
                self.assertIsNone(either_of(Table(worths)))
                self.assertIsNone(both_of(Table(worths)))

    def test_one_worth_that_is_not_right(self):
        for place in range(10):
            for table, numbers_of in ((Table.either(6, 2), either_of), (Table.both(3, 2), both_of)):
                worths = table.worths
                worths[place] += 1
                self.assertIsNone(numbers_of(Table(worths)))

    def test_both_kinds_at_once(self):
        self.assertEqual([either_of(Table.both(2, 0)), both_of(Table.either(2, 0))], [(2, 0), (2, 0)])
        self.assertEqual([either_of(Table.both(0, 4)), both_of(Table.either(0, 4))], [(0, 4), (0, 4)])

    def test_count(self):
        table = plain_table()
        self.assertEqual(count_of(table, "0550"), 32)
        self.assertEqual(count_of(table, ""), 0)
        self.assertEqual(count_of(Table([60] * 10), "9" * 2000), 120000)
        self.assertEqual(count_of(Table(MIXED), "0123456789"), sum(MIXED))
        for speed in range(10):
            self.assertEqual(count_of(Table(MIXED), str(speed)), MIXED[speed])

    def test_count_of_no_trip(self):
        for value in no_strings() + ["5a", "5 ", "-5", "\n", "3x5", "0" * 2001]:
            check_given(self, BadTrip, value, count_of, plain_table(), value)


class TextsTest(unittest.TestCase):
    def test_texts(self):
        for worths, text in (
            ([0] * 10, "0 0 0 0 0 0 0 0 0 0"),
            ([60] * 10, "60 60 60 60 60 60 60 60 60 60"),
            (MIXED, "60 0 7 59 1 10 60 0 33 2"),
            (list(range(10)), "0 1 2 3 4 5 6 7 8 9"),
        ):
            with self.subTest(text=text):
                self.assertEqual(Table(worths).text(), text)
                self.assertEqual(Table.read(text).worths, worths)

    def test_every_worth_there_and_back(self):
        for worth in range(61):
            table = Table(with_worth(worth, worth % 10))
            self.assertTrue(Table.read(table.text()).same(table))

    def test_wrong_texts(self):
        words = "1 1 1 1 1 1 1 1 1 "
        wrong = ["", " ", "\n", "1", "1 1 1 1 1 1 1 1 1", words, words + "1 ", " " + words + "1", words + "1 1", words + " 1"]
        wrong += ["1" * 10, words.replace(" ", "\n") + "1", words.replace(" ", ", ") + "1", words + "1\n", "\n" + words + "1"]
        wrong += [words + word for word in ("x", "-1", "+1", "-0", "01", "00", "007", "1.0", "1_0", "61", "100", "0x1", "1e1")]
        wrong += [words + word for word in ("1,", "[1]", "None", "True", "\u0661", "\u00b2", "9" * 30, "9" * 2000, "9" * 5000)]
        wrong += ["01 1 1 1 1 1 1 1 1 1", "1 1 1 1 1 061 1 1 1 1", "[1, 1, 1, 1, 1, 1, 1, 1, 1, 1]"]
        for value in wrong + no_strings() + wrong_worths():
            if value != "0 1 2 3 4 5 6 7 8 9":
                check_given(self, BadText, value, Table.read, value)


if __name__ == "__main__":
    unittest.main()
