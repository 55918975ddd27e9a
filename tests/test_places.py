"""Tests of cabmeters.places: layers of places, and what a survey tells of them."""

import unittest

from cabmeters.meters import Meter
from cabmeters.places import Survey, bits, counts_in, leaving, led
from cabmeters.tables import Table


class LayersTest(unittest.TestCase):
    def test_bits(self):
        self.assertEqual([bits(0, 0), bits(0, 3), bits(2, 3), bits(5, 5), bits(3, 2), bits(0, -1)], [1, 15, 12, 32, 0, 0])

    def test_counts_in(self):
        self.assertEqual([counts_in(0), counts_in(1), counts_in(0b101100), counts_in(1 << 2400)], [[], [0], [2, 3, 5], [2400]])

    def test_led(self):
        moves = [(0, 3, bits(0, 9)), (2, 1, bits(0, 4)), (2, 7, bits(5, 9))]
        self.assertEqual(led({4: 1 << 2 | 1 << 6}, moves), {4: 1 << 5 | 1 << 9, 6: 1 << 3 | 1 << 13})
        self.assertEqual(led({}, moves), {})
        self.assertEqual(led({4: 1}, []), {})

    def test_leaving(self):
        moves = [(0, 3, bits(0, 9)), (2, 1, bits(0, 4)), (2, 7, bits(5, 9))]
        layer = {4: 1 << 2 | 1 << 6, 5: 1 << 2}
        self.assertEqual(leaving(layer, {6: 1 << 3}, moves), {4: 1 << 2})
        self.assertEqual(leaving(layer, {6: 1 << 13}, moves), {4: 1 << 6})
        self.assertEqual(leaving(layer, {4: 1 << 9, 5: 1 << 5}, moves), {4: 1 << 6, 5: 1 << 2})
        self.assertEqual(leaving(layer, {6: 1 << 7}, moves), {})
        # A layer is not changed.
        self.assertEqual(layer, {4: 1 << 2 | 1 << 6, 5: 1 << 2})


class SurveyTest(unittest.TestCase):
    def setUp(self):
        meter = Meter(4, 3, [Table(list(range(10))), Table([5] * 10)], [1])
        self.survey = Survey(meter, ("0123", "0123"), (("passed", 2, 4), ("jumped", 0, False)))

    def test_layers(self):
        # In each tick the table counts the steps, as there is no jump in the first one.
        self.assertEqual(self.survey.layers(), [{0: 1}, {1: 1 << 1, 2: 1 << 2, 3: 1 << 3}, {4: 1 << 4}])
        self.assertEqual([self.survey.speeds(0), self.survey.speeds(1)], [[1, 2, 3], [1, 2, 3]])
        self.assertEqual([self.survey.ticks(), self.survey.last_passed()], [2, 2])

    def test_steps_and_trips(self):
        self.assertEqual(self.survey.onward(0, 0, 0), [(1, 1), (2, 2), (3, 3)])
        self.assertEqual(self.survey.onward(1, 3, 3), [(1, 1)])
        self.assertEqual(list(self.survey.trips_on("", 0, 0)), ["13", "22", "31"])
        self.assertEqual(list(self.survey.trips_on("2", 2, 2)), ["22"])
        self.assertEqual([self.survey.front_to(0, 0, 0), self.survey.front_to(1, 3, 3)], ["", "3"])
        self.assertIn(self.survey.front_to(2, 4, 4), ["13", "22", "31"])

    def test_kept(self):
        self.assertEqual(self.survey.kept(2, {3: 1, 4: 6, 5: 1}), {4: 6})
        self.assertEqual(self.survey.kept(1, {3: 1, 4: 6, 5: 0}), {3: 1, 4: 6})


if __name__ == "__main__":
    unittest.main()
