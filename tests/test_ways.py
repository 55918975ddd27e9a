"""Tests of cabmeters.ways: points [18] to [22], and points [3] and [4] for them."""

import random
import time
import unittest

from cabmeters.errors import BadNumber, BadPrice, BadTicks, BadTop, BadWay, NotPlain
from cabmeters.meters import Meter
from cabmeters.tables import Table, both_worths, either_worths
from cabmeters.ways import (
    both_ways, either_ways, least_ticks, least_top, price_ways, short_form, way_prices, way_trip)
from tests import plain
from tests.samples import HUGE, cab_meter, caught, check_given, double_meter, no_numbers, plain_table, triple_meter


def in_short_form(ways):
    """Return the stretches of a set of ways."""
    stretches = []
    for way in sorted(ways):
        if stretches and stretches[-1][1] == way - 1:
            stretches[-1] = (stretches[-1][0], way)
        else:
            stretches.append((way, way))
    return stretches


def totals(worths, ticks, top):
    """Return the set of the tuples (count, way) of all trips with so many ticks, counted tick by tick."""
    found = {(0, 0)}
    for _ in range(ticks):
        found = {(count + worths[speed], way + speed) for count, way in found for speed in range(top + 1)}
    return found


def plain_meters():
    """Return a list of meters that have one plain table."""
    tables = [Table.either(6, 2), Table.either(5, 3), Table.either(0, 1), Table.either(4, 0), Table.either(0, 0), Table.either(60, 6)]
    tables += [Table.both(3, 1), Table.both(0, 2), Table.both(7, 0), Table.both(6, 6)]
    meters = [Meter(10, 6, [table], flag=30, each=10) for table in tables]
    return meters + [Meter(1, 1, [table], flag=3, each=7) for table in tables[::3]] + [Meter(25, 60, [Table.either(7, 3)])]


def unlike_meters():
    """Return a list of meters that are not plain."""
    twice = Meter(8, 4, [plain_table(), plain_table()], [9])
    unlike = Meter(8, 4, [Table.changing(5, 2, 4)])
    return [double_meter(), triple_meter(), twice, unlike, Meter(8, 4, [Table([0] * 9 + [1])])]


class CountsTest(unittest.TestCase):
    def test_compared_with_all_trips(self):
        for time, way in ((6, 2), (7, 3), (0, 1), (0, 0), (5, 0), (1, 6), (60, 6), (11, 5), (2, 2), (60, 1), (3, 1)):
            for top in (0, 1, 2, 4, 9):
                for ticks in range(5):
                    for call, worths in ((either_ways, either_worths(time, way)), (both_ways, both_worths(time, way))):
                        found = {}
                        for count, driven in totals(worths, ticks, top):
                            found.setdefault(count, set()).add(driven)
                        for count in range(max(found) + 3):
                            with self.subTest(call=call, time=time, way=way, ticks=ticks, count=count, top=top):
                                expected = in_short_form(found.get(count, set()))
                                self.assertEqual(call(time, way, ticks, count, top), expected)

    def test_totals_are_those_of_all_trips(self):
        worths = either_worths(6, 2)
        trips = plain.all_trips(3, 4)
        self.assertEqual(totals(worths, 3, 4), {(sum(worths[int(at)] for at in trip), plain.ways(trip)[-1]) for trip in trips})

    def test_several_stretches(self):
        self.assertEqual(either_ways(6, 2, 4, 30), [(6, 15)])
        self.assertEqual(either_ways(60, 6, 3, 180), [(0, 27)])
        self.assertEqual(either_ways(1, 6, 3, 13), [(2, 2)])
        self.assertEqual(either_ways(12, 6, 7, 120, 9), in_short_form({way for count, way in totals(either_worths(12, 6), 7, 9) if count == 120}))
        self.assertEqual(either_ways(2, 3, 4, 18), [(4, 4), (6, 6)])
        self.assertEqual(either_ways(5, 6, 7, 60), [(5, 5), (10, 10)])
        gaps = [(time, way, count) for time in range(12) for way in range(1, 7) for count in range(60)
                if len(either_ways(time, way, 4, count)) > 1]
        self.assertTrue(gaps)
        for time, way, count in gaps:
            ways = {driven for at, driven in totals(either_worths(time, way), 4, 9) if at == count}
            self.assertEqual(either_ways(time, way, 4, count), in_short_form(ways))

    def test_worths_above_60(self):
        self.assertEqual(both_ways(60, 6, 2, 174), [(9, 9)])
        self.assertEqual(both_ways(60, 6, 400, 400 * 114), [(3600, 3600)])
        self.assertEqual(both_ways(60, 6, 1, 115), [])

    def test_top_that_is_left_out(self):
        self.assertEqual(either_ways(6, 2, 4, 72), [(36, 36)])
        self.assertEqual(either_ways(6, 2, 4, 72, 9), [(36, 36)])
        self.assertEqual(either_ways(6, 2, 4, 72, 8), [])
        self.assertEqual(both_ways(3, 1, 4, 48), [(36, 36)])
        self.assertEqual(both_ways(3, 1, 4, 48, 8), [])
        self.assertEqual([either_ways(6, 2, 4, 24, 0), both_ways(3, 1, 4, 12, 0)], [[(0, 0)], [(0, 0)]])

    def test_no_ticks(self):
        for call in (either_ways, both_ways):
            for time, way in ((6, 2), (0, 0), (5, 0), (0, 3)):
                self.assertEqual([call(time, way, 0, 0), call(time, way, 0, 1), call(time, way, 0, HUGE, 0)], [[(0, 0)], [], []])

    def test_counts_beyond_all(self):
        for call in (either_ways, both_ways):
            for ticks in (0, 1, 400):
                self.assertEqual(call(6, 2, ticks, HUGE), [])
                self.assertEqual(call(0, 0, ticks, HUGE), [])

    def test_400_ticks_compared_with_counting_tick_by_tick(self):
        for time, way, top, worths, call in (
            (6, 2, 4, either_worths(6, 2), either_ways), (5, 3, 2, either_worths(5, 3), either_ways),
            (3, 1, 2, both_worths(3, 1), both_ways), (4, 0, 1, either_worths(4, 0), either_ways),
        ):
            layer = {0: 1}
            for _ in range(400):
                behind = {}
                for driven, counts in layer.items():
                    for speed in range(top + 1):
                        behind[driven + speed] = behind.get(driven + speed, 0) | counts << worths[speed]
                layer = behind
            for count in (0, 400 * worths[0], 400 * worths[0] + 1, 400 * worths[top], 400 * worths[top] - 1, 1234, 2501, 2602):
                with self.subTest(call=call, time=time, way=way, count=count):
                    expected = in_short_form({driven for driven, counts in layer.items() if counts >> count & 1})
                    self.assertEqual(call(time, way, 400, count, top), expected)

    def test_wrong_values(self):
        for call in (either_ways, both_ways):
            for value in no_numbers(0, 60):
                check_given(self, BadNumber, value, call, value, 2, 4, 24)
            for value in no_numbers(0, 6):
                check_given(self, BadNumber, value, call, 6, value, 4, 24)
            for value in no_numbers(0, 400):
                check_given(self, BadTicks, value, call, 6, 2, value, 24)
            for value in no_numbers(0):
                check_given(self, BadNumber, value, call, 6, 2, 4, value)
            for value in no_numbers(0, 9):
                check_given(self, BadTop, value, call, 6, 2, 4, 24, value)

    def test_the_error_that_is_listed_first(self):
        for call in (either_ways, both_ways):
            check_given(self, BadNumber, None, call, None, 7, 401, -1, 10)
            check_given(self, BadNumber, 61, call, 61, 2, 4, -1, 9)
            check_given(self, BadNumber, 7, call, 6, 7, 401, -1, 10)
            check_given(self, BadNumber, 7, call, 6, 7, 4, "x", 10)
            check_given(self, BadTicks, 401, call, 6, 2, 401, -1, 10)
            check_given(self, BadNumber, -1, call, 6, 2, 4, -1, 10)
            check_given(self, BadTop, 10, call, 6, 2, 4, 1, 10)


class PricesTest(unittest.TestCase):
    def test_compared_with_all_trips(self):
        for meter in plain_meters():
            for ticks, top in ((0, 9), (1, 9), (2, 9), (3, 9), (4, 4), (5, 1), (5, 0), (6, 3)):
                found = {}
                for count, way in totals(meter.tables[0].worths, ticks, top):
                    found.setdefault(plain.price(meter, count), set()).add(way)
                for price in list(found) + [0, 1, meter.flag + 1, max(found) + meter.each, max(found) + 1, HUGE]:
                    with self.subTest(meter=meter.text(), ticks=ticks, top=top, price=price):
                        self.assertEqual(price_ways(meter, ticks, price, top), in_short_form(found.get(price, set())))
                        self.check_trips(meter, ticks, price, top, found.get(price, set()))
                for way in range(ticks * top + 3):
                    prices = sorted([price for price, ways in found.items() if way in ways])
                    self.assertEqual(way_prices(meter, ticks, way, top), prices)

    def check_trips(self, meter, ticks, price, top, ways):
        """Check that there are trips with just these ways."""
        for way in range(ticks * top + 3):
            trip = way_trip(meter, ticks, price, way, top)
            if way in ways:
                self.assertRegex(trip, rf"\A[0-{top}]*\Z")
                self.assertEqual((len(trip), plain.ways(trip)[-1]), (ticks, way))
                self.assertEqual(plain.price(meter, plain.counts(meter, trip)[-1]), price)
            else:
                self.assertIsNone(trip)

    def test_least_top_and_least_ticks_compared_with_all_trips(self):
        for meter in plain_meters():
            worths = meter.tables[0].worths
            found = {(ticks, top): {(plain.price(meter, count), way) for count, way in totals(worths, ticks, top)}
                     for ticks in range(4) for top in range(10)}
            prices = sorted({price for price, _ in found[3, 9]} | {meter.flag})
            for price in prices[:2] + prices[len(prices) // 2:][:1] + prices[-1:] + [1]:
                for way in (0, 1, 2, 5, 11, 26, 27, 28):
                    for ticks in range(4):
                        tops = [top for top in range(10) if (price, way) in found[ticks, top]]
                        self.assertEqual(least_top(meter, ticks, price, way), min(tops, default=None))
                    for top in {0: (9,), 2: (1,), 5: (0, 5), 27: (9,)}.get(way, ()):
                        ticks = least_ticks(meter, price, way, top)
                        self.assertEqual(ticks if ticks is None or ticks < 4 else None, min(
                            [many for many in range(4) if (price, way) in found[many, top]], default=None))
                        if ticks is not None:
                            self.assertIsNotNone(way_trip(meter, ticks, price, way, top))

    def test_top_that_is_left_out(self):
        meter = cab_meter()
        self.assertEqual(price_ways(meter, 4, 140), [(35, 36)])
        self.assertEqual(price_ways(meter, 4, 140, 8), [])
        self.assertEqual(way_trip(meter, 4, 140, 36), "9999")
        self.assertIsNone(way_trip(meter, 4, 140, 36, 8))
        self.assertEqual([way_prices(meter, 4, 36), way_prices(meter, 4, 36, 8)], [[140], []])
        self.assertEqual([least_ticks(meter, 140, 36), least_ticks(meter, 140, 36, 8)], [4, 5])

    def test_no_ticks(self):
        meter = cab_meter()
        self.assertEqual([price_ways(meter, 0, 30), price_ways(meter, 0, 40), price_ways(meter, 0, 0)], [[(0, 0)], [], []])
        self.assertEqual([way_trip(meter, 0, 30, 0), way_trip(meter, 0, 30, 1), way_trip(meter, 0, 40, 0)], ["", None, None])
        self.assertEqual([way_prices(meter, 0, 0), way_prices(meter, 0, 1)], [[30], []])
        self.assertEqual([least_top(meter, 0, 30, 0), least_top(meter, 0, 30, 1), least_ticks(meter, 30, 0)], [0, None, 0])

    def test_prices_that_no_count_has(self):
        meter = cab_meter()
        for price in (0, 1, 20, 29, 31, 35, 39, 41, HUGE, 10 * HUGE):
            self.assertEqual(price_ways(meter, 4, price), [])
            self.assertIsNone(way_trip(meter, 4, price, 4))
            self.assertIsNone(least_top(meter, 4, price, 4))
            self.assertIsNone(least_ticks(meter, price, 4))

    def test_ways_beyond_all(self):
        for meter in plain_meters():
            for way in (3601, HUGE):
                self.assertIsNone(way_trip(meter, 400, meter.flag + meter.each, way))
                self.assertEqual(way_prices(meter, 400, way), [])
                self.assertIsNone(least_top(meter, 400, meter.flag + meter.each, way))
                self.assertIsNone(least_ticks(meter, meter.flag + meter.each, way))

    def test_400_ticks(self):
        some = random.Random(3)
        for meter in plain_meters():
            for top in (9, 3):
                trip = "".join(some.choices(plain.DIGITS[:top + 1], k=400))
                price = meter(trip)
                way = sum(int(digit) for digit in trip)
                with self.subTest(meter=meter.text(), top=top):
                    self.assertTrue(any(low <= way <= high for low, high in price_ways(meter, 400, price, top)))
                    other = way_trip(meter, 400, price, way, top)
                    self.assertEqual([len(other), sum(int(digit) for digit in other), meter(other)], [400, way, price])
                    self.assertLessEqual(max(other), str(top))
                    self.assertIn(price, way_prices(meter, 400, way, top))
                    least = least_top(meter, 400, price, way)
                    self.assertIsNotNone(way_trip(meter, 400, price, way, least))
                    self.assertIsNone(way_trip(meter, 400, price, way, least - 1) if least else None)
                    ticks = least_ticks(meter, price, way, top)
                    self.assertIsNotNone(way_trip(meter, ticks, price, way, top))
                    self.assertIsNone(way_trip(meter, ticks - 1, price, way, top) if ticks else None)

    def test_edges_of_400_ticks(self):
        meter = Meter(1, 1, [Table.either(6, 2)])
        self.assertEqual(price_ways(meter, 400, 2400), [(0, 1200)])
        self.assertEqual(price_ways(meter, 400, 7200), [(3600, 3600)])
        self.assertEqual(way_trip(meter, 400, 7200, 3600), "9" * 400)
        self.assertEqual(least_ticks(meter, 7200, 3600), 400)
        self.assertIsNone(least_ticks(meter, 7218, 3609))
        self.assertEqual(least_ticks(meter, 2400, 0), 400)
        self.assertIsNone(least_ticks(meter, 2406, 0))
        self.assertEqual(way_prices(meter, 400, 3600), [7200])
        self.assertEqual(way_prices(meter, 400, 0), [2400])

    def test_not_plain(self):
        for meter in unlike_meters():
            for ticks, price, way, top in ((4, 30, 4, 9), (401, -1, None, 10), (None, None, None, None)):
                for call, arguments in (
                    (price_ways, (meter, ticks, price, top)), (way_trip, (meter, ticks, price, way, top)),
                    (way_prices, (meter, ticks, way, top)), (least_top, (meter, ticks, price, way)),
                    (least_ticks, (meter, price, way, top)),
                ):
                    caught(self, NotPlain, call, *arguments)

    def test_wrong_values(self):
        meter = cab_meter()
        for value in no_numbers(0, 400):
            check_given(self, BadTicks, value, price_ways, meter, value, 70)
            check_given(self, BadTicks, value, way_trip, meter, value, 70, 13)
            check_given(self, BadTicks, value, way_prices, meter, value, 13)
            check_given(self, BadTicks, value, least_top, meter, value, 70, 13)
        for value in no_numbers(0):
            check_given(self, BadPrice, value, price_ways, meter, 4, value)
            check_given(self, BadPrice, value, way_trip, meter, 4, value, 13)
            check_given(self, BadPrice, value, least_top, meter, 4, value, 13)
            check_given(self, BadPrice, value, least_ticks, meter, value, 13)
            check_given(self, BadWay, value, way_trip, meter, 4, 70, value)
            check_given(self, BadWay, value, way_prices, meter, 4, value)
            check_given(self, BadWay, value, least_top, meter, 4, 70, value)
            check_given(self, BadWay, value, least_ticks, meter, 70, value)
        for value in no_numbers(0, 9):
            check_given(self, BadTop, value, price_ways, meter, 4, 70, value)
            check_given(self, BadTop, value, way_trip, meter, 4, 70, 13, value)
            check_given(self, BadTop, value, way_prices, meter, 4, 13, value)
            check_given(self, BadTop, value, least_ticks, meter, 70, 13, value)

    def test_the_error_that_is_listed_first(self):
        meter = cab_meter()
        check_given(self, BadTicks, 401, price_ways, meter, 401, -1, 10)
        check_given(self, BadPrice, -1, price_ways, meter, 400, -1, 10)
        check_given(self, BadTicks, 401, way_trip, meter, 401, -1, -2, 10)
        check_given(self, BadPrice, -1, way_trip, meter, 400, -1, -2, 10)
        check_given(self, BadWay, -2, way_trip, meter, 400, 1, -2, 10)
        check_given(self, BadTop, 10, way_trip, meter, 400, 1, 2, 10)
        check_given(self, BadTicks, 401, way_prices, meter, 401, -2, 10)
        check_given(self, BadWay, -2, way_prices, meter, 400, -2, 10)
        check_given(self, BadTicks, 401, least_top, meter, 401, -1, -2)
        check_given(self, BadPrice, -1, least_top, meter, 400, -1, -2)
        check_given(self, BadPrice, -1, least_ticks, meter, -1, -2, 10)
        check_given(self, BadWay, -2, least_ticks, meter, 1, -2, 10)
        # A price that no count has is no error, so that the errors of later parameters come.
        check_given(self, BadTop, 10, price_ways, meter, 4, 31, 10)
        check_given(self, BadWay, None, way_trip, meter, 4, 31, None)

    def test_returned_lists_are_new(self):
        meter = cab_meter()
        for call, arguments in ((price_ways, (meter, 4, 70)), (way_prices, (meter, 4, 13)), (either_ways, (6, 2, 4, 32))):
            returned = call(*arguments)
            kept = list(returned)
            returned.clear()
            self.assertEqual(call(*arguments), kept)


def small_plain_meters(many):
    """Return a list of meters with one table of time and way, always the same ones."""
    some = random.Random(22)
    meters = []
    while len(meters) < many:
        kind = some.choice((Table.either, Table.either, Table.both))
        time, way = some.choice((0, 1, 3, 6, some.randint(0, 60))), some.randint(0, 6)
        if time + 9 * way <= 60 or kind == Table.either:
            meters.append(Meter(some.randint(1, 30), some.randint(1, 20), [kind(time, way)],
                                flag=some.choice((0, 30)), each=some.choice((1, 7, 10))))
    return meters


class LeastTicksTest(unittest.TestCase):
    def test_the_input_of_the_fault_report(self):
        self.assertIsNone(least_ticks(Meter(10, 6, [Table.either(6, 2)], flag=30, each=10), 70, 30))

    def test_compared_with_listing_all_trips(self):
        nones = 0
        for place, meter in enumerate(small_plain_meters(60)):
            top = (1, 2, 3, 0, 4)[place % 5]
            most = (8, 6, 5, 9, 4)[place % 5]
            least = {}
            for ticks in range(most + 1):
                for trip in plain.all_trips(ticks, top):
                    least.setdefault((plain.price(meter, plain.counts(meter, trip)[-1]), sum(map(int, trip))), ticks)
            prices = sorted({price for price, _ in least})
            for price in prices[:3] + prices[-2:] + [prices[-1] + meter.each, meter.flag + 2 * meter.each]:
                for way in range(0, most * top + 2, 2):
                    ticks = least_ticks(meter, price, way, top)
                    if ticks is None or ticks > most:
                        self.assertNotIn((price, way), least)
                        nones += ticks is None
                    else:
                        self.assertEqual(ticks, least.get((price, way)))
        self.assertGreater(nones, 300)

    def test_many_ticks_compared_with_counting_tick_by_tick(self):
        for meter in small_plain_meters(25):
            for top in (9, 3):
                worths = meter.tables[0].worths
                some = random.Random(meter.text())
                wanted = {}
                for _ in range(12):
                    trip = "".join(some.choices("0123456789"[:top + 1], k=some.randint(0, 12)))
                    price, way = meter(trip), sum(map(int, trip))
                    for other in (price, price + meter.each, price + 3 * meter.each, price + 1):
                        for also in (way, way + 1, way + 4, max(0, way - 6)):
                            wanted[other, also] = None
                found = {(0, 0)}
                greatest = max(price for price, _ in wanted)
                for ticks in range(41):
                    prices = {(plain.price(meter, count), way) for count, way in found}
                    for price, way in wanted:
                        if wanted[price, way] is None and (price, way) in prices:
                            wanted[price, way] = ticks
                    found = {(count + worths[speed], way + speed) for count, way in found for speed in range(top + 1)}
                    found = {(count, way) for count, way in found
                             if way < 130 and plain.price(meter, count) <= greatest}
                for price, way in wanted:
                    ticks = least_ticks(meter, price, way, top)
                    # Beyond 40 ticks, only the steps through all ways would tell.
                    self.assertEqual(None if ticks is not None and ticks > 40 else ticks, wanted[price, way])

    def test_very_many_ticks(self):
        self.assertEqual(least_ticks(Meter(60, 60, [Table.either(1, 6)]), 6, 0), 360)
        self.assertEqual(least_ticks(Meter(60, 60, [Table.either(1, 6)]), 6, 59), 13)
        self.assertEqual(least_ticks(Meter(1, 1, [Table.either(1, 3)]), 400, 0), 400)
        self.assertIsNone(least_ticks(Meter(1, 1, [Table.either(1, 3)]), 401, 0))
        self.assertEqual(least_ticks(Meter(1, 1, [Table.either(1, 3)]), 401, 1), 399)
        self.assertEqual(least_ticks(Meter(1, 1, [Table.either(0, 0)]), 0, 3600), 400)
        self.assertIsNone(least_ticks(Meter(1, 1, [Table.either(0, 0)]), 0, 3601))
        self.assertEqual(least_ticks(Meter(60, 60, [Table.both(1, 1)]), 6, 20, 1), 340)
        self.assertIsNone(least_ticks(Meter(60, 60, [Table.both(1, 1)]), 7, 10, 1))

    def test_many_calls_end_soon(self):
        some = random.Random(9)
        meters = small_plain_meters(200)
        begin = time.perf_counter()
        nones = 0
        for meter in meters:
            trip = "".join(some.choices("0123456789", k=some.randint(0, 12)))
            price = meter(trip) + some.choice((0, meter.each, 1)) + meter.each * some.randint(0, 3)
            nones += least_ticks(meter, price, sum(map(int, trip)) + some.randint(0, 30)) is None
        self.assertGreaterEqual(nones, 100)
        # The program that asked each number of ticks for itself took some ten seconds.
        self.assertLess(time.perf_counter() - begin, 1)


class ShortFormTest(unittest.TestCase):
    def test_compared_with_sets(self):
        some = random.Random(4)
        for _ in range(300):
            lows = some.choices(range(30), k=some.randrange(6))
            stretches = [(low, low + some.randrange(5)) for low in lows]
            kept = list(stretches)
            expected = in_short_form({way for low, high in stretches for way in range(low, high + 1)})
            self.assertEqual(short_form(stretches), expected)
            self.assertEqual(stretches, kept)


if __name__ == "__main__":
    unittest.main()
