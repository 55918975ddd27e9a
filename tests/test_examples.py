"""The examples that the interface shows, with the answers that it shows, file by file."""

import unittest

from cabmeters.tables import Table, both_of, count_of, either_of
from cabmeters.trips import as_text, fastest, from_text, is_speed, is_trip, stops, way_of, ways_of


class ExamplesTest(unittest.TestCase):
    def test_trips(self):
        self.assertEqual(
            [is_trip("0550"), is_trip("5a"), is_speed(7), is_speed("7"), way_of("0553"), ways_of("053"), fastest("053")],
            [True, False, True, False, 13, [0, 0, 5, 8], 5])
        self.assertEqual(
            [stops("0050"), as_text("55500"), from_text("2x0 12x3")],
            [[(0, 2), (3, 4)], '3x5 2x0', '00333333333333'])

    def test_tables(self):
        plain = Table.either(6, 2)
        self.assertEqual(
            [plain.worths, plain[4], count_of(plain, "0550"), either_of(plain), both_of(plain)],
            [[6, 6, 6, 6, 8, 10, 12, 14, 16, 18], 8, 32, (6, 2), None])
        self.assertEqual(
            [Table.both(3, 1).worths, Table.changing(5, 2, 4).text(), either_of(Table.read("7 7 7 7 7 7 7 7 7 7")),
             Table.both(2, 0).same(Table.either(2, 0))],
            [[3, 4, 5, 6, 7, 8, 9, 10, 11, 12], '5 5 5 5 8 10 12 14 16 18', (7, 0), True])


if __name__ == "__main__":
    unittest.main()
