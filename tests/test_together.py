"""What one part of the program tells agrees with what another part tells of the same trips."""

import random
import unittest

from cabmeters.against import greatest_excess, never_dearer, parting_trip
from cabmeters.bent import Bent, faults_that_show, telling_trip
from cabmeters.cards import Card, both_number
from cabmeters.clashes import best_look, greatest_worth, least_worth, look_numbers, record_of
from cabmeters.hires import best_split, greatest_cost, greatest_saving, split_price
from cabmeters.longest import greatest_pace, most_by_ticks, most_in
from cabmeters.meters import Meter
from cabmeters.records import Record
from cabmeters.tables import Table, count_of
from cabmeters.town import Route, dearer_waits
from cabmeters.trips import fastest, stops, way_of, ways_of
from cabmeters.verdicts import sure_stops, verdict_on, way_range
from cabmeters.ways import least_ticks, price_ways, way_prices
from tests.samples import any_meter, any_record, cab_meter, double_meter, triple_meter
from tests.test_against import small_meter


def some_trips(seed, most=30):
    """Return a list of trips of up to so many ticks, always the same for a seed."""
    some = random.Random(seed)
    return ["".join(some.choices("0123456789", k=some.randint(0, most))) for _ in range(8)]


def some_meters():
    """Return a list of meters of all kinds."""
    return [cab_meter(), double_meter(), triple_meter()] + [any_meter(seed, 20, 20) for seed in range(5)]


class MetersTest(unittest.TestCase):
    def test_prices_go_on_from_the_stand_behind_a_part(self):
        for meter in some_meters():
            for trip in some_trips(1):
                for at in (0, len(trip) // 2, len(trip)):
                    stand, jumps = meter.stand(trip[:at]), 0
                    for digit in trip[at:]:
                        stand, more = meter.after(stand, int(digit))
                        jumps += more
                    self.assertEqual(meter(trip), meter(trip[:at]) + meter.each * jumps)
                    self.assertEqual(stand, meter.stand(trip))
                self.assertEqual([meter.flag + meter.each * sum(number for _, number in meter.jumps(trip)), meter(trip)],
                                 [meter.prices(trip)[-1]] * 2)

    def test_a_meter_with_one_table_counts_by_it(self):
        meter = cab_meter()
        for trip in some_trips(2):
            self.assertEqual(meter.count(trip), count_of(meter.tables[0], trip))
            self.assertEqual([way_of(trip), fastest(trip) == 0], [ways_of(trip)[-1], stops(trip) == [(0, len(trip))][:len(trip)]])

    def test_growth_and_pace(self):
        for meter in some_meters():
            amounts = most_by_ticks(meter, 30)
            (upper, lower), front, ring = greatest_pace(meter)
            for trip in some_trips(3):
                prices = meter.prices(trip)
                for at in range(len(prices)):
                    self.assertLessEqual(prices[-1] - prices[at], amounts[len(trip) - at])
            # So many ticks can always grow by what a ring grows by on the mean.
            self.assertGreaterEqual(amounts[30] * lower, upper * 30)
            self.assertEqual((meter(front + ring) - meter(front)) * lower, upper * len(ring))
            amount, front, trip = most_in(meter, 30)
            self.assertEqual([amount, meter(front + trip) - meter(front)], [amounts[30]] * 2)


class RecordsTest(unittest.TestCase):
    def test_open_records_and_ways_of_prices(self):
        for meter in (cab_meter(), Meter(7, 3, [Table.both(2, 3)], flag=1, each=7)):
            for ticks, top in ((4, 9), (40, 9), (40, 2)):
                record = Record(meter, ticks, top)
                trip = "120" * 20
                price, way = meter(trip[:ticks]), way_of(trip[:ticks])
                for told in (price, price + meter.each):
                    with record.trial():
                        record.showed(ticks, told)
                        ways = record.ways(ticks)
                        stretches = price_ways(meter, ticks, told, top)
                        self.assertEqual(ways, [way for low, high in stretches for way in range(low, high + 1)])
                with record.trial():
                    record.passed(ticks, way)
                    self.assertEqual(record.prices(ticks), way_prices(meter, ticks, way, top))
                least = least_ticks(meter, price, way, top)
                self.assertLessEqual(least, ticks)

    def test_looks_verdicts_and_ranges(self):
        for seed in range(60):
            record = any_record(seed, 4, 5)
            total = record.how_many()
            for tick in range(5):
                numbers = look_numbers(record, ("way", tick))
                self.assertEqual([sorted(numbers), sum(numbers.values())], [record.ways(tick), total])
                self.assertEqual(sorted(look_numbers(record, ("price", tick))), record.prices(tick))
                if tick < 4:
                    speeds = sorted(look_numbers(record, ("speed", tick)))
                    self.assertEqual("".join(map(str, speeds)), record.speeds(tick))
                    self.assertEqual(tick in sure_stops(record), speeds == [0])
                if total:
                    steps = [[speed if at < tick else 0 for speed in range(10)] for at in range(4)]
                    self.assertEqual(way_range(record, 0, tick), (least_worth(record, steps)[0], greatest_worth(record, steps)[0]))
                    self.assertEqual(verdict_on(record, ("way", tick, min(numbers))), "always")
                    self.assertEqual(verdict_on(record, ("way", tick, max(numbers) + 1)), "never")
            self.assertEqual(best_look(record) is None, total == 0)

    def test_cards_and_records(self):
        for seed in range(30):
            record = any_record(seed, 3, 5)
            card = Card(record.meter, 3, 5)
            for place, fact in enumerate(record.facts()):
                card.tell("abcd"[place], fact)
            self.assertEqual(both_number(card, Card(cab_meter(), 3, 5)), record.how_many())
            self.assertEqual(card.record().how_many(), record_of(record, list(range(len(record.facts())))).how_many())


class GraphsTest(unittest.TestCase):
    def test_excess_against_parting(self):
        for seed in range(40):
            one, other = small_meter(seed), small_meter(seed + 40)
            trip = parting_trip(one, other, 3)
            told = telling_trip(one, other, 3)
            self.assertEqual(None if trip is None else len(trip), None if told is None else len(told))
            if trip is None:
                self.assertTrue(never_dearer(one, other, 3) and never_dearer(other, one, 3))
            else:
                excess = one(trip) - other(trip)
                self.assertFalse(never_dearer(one, other, 3) if excess > 0 else never_dearer(other, one, 3))
                greatest = greatest_excess(one, other, 3)
                self.assertTrue(greatest is None or greatest[0] >= excess)

    def test_splits_and_savings(self):
        for meter in [small_meter(seed) for seed in range(20)] + [cab_meter()]:
            saving, cost = greatest_saving(meter), greatest_cost(meter)
            for trip in some_trips(4, 12):
                whole = split_price(meter, trip, [])
                self.assertEqual(whole, meter(trip))
                for tick in range(1, len(trip)):
                    two = split_price(meter, trip, [tick])
                    self.assertEqual(two, meter(trip[:tick]) + meter(trip[tick:]))
                    self.assertTrue(saving is None or whole - two <= saving[0])
                    self.assertTrue(cost is None or two - whole <= cost[0])
                price, ticks = best_split(meter, trip, 2)
                self.assertEqual(price, min([whole] + [split_price(meter, trip, [tick]) for tick in range(1, len(trip))]))
                self.assertLessEqual(best_split(meter, trip)[0], price)
            if saving is not None:
                amount, front, back = saving
                self.assertEqual(amount, meter(front + back) - meter(front) - meter(back))
                if front and back:
                    self.assertLessEqual(best_split(meter, front + back, 2)[0], meter(front + back) - amount)

    def test_bent_meters_and_faults(self):
        for meter in some_meters():
            for trip in some_trips(5):
                bent = Bent(meter, "lost", 3)
                self.assertIn(("lost", 3), faults_that_show(meter, bent.prices(trip), trip))
                if telling_trip(meter, Bent(meter, "idle", 2), 1) is None:
                    self.assertEqual(Bent(meter, "idle", 2).prices("1" * 30), meter.prices("1" * 30))

    def test_routes_and_records(self):
        for meter in some_meters():
            route = Route([("road", 4, 2), ("light", 1), ("road", 3, 3)])
            shown = {}
            for ticks in range(9):
                for trip in Record(meter, ticks, 3).trips() if ticks < 6 else []:
                    if route.has(trip):
                        shown[meter(trip)] = True
            self.assertTrue(set(shown) <= set(route.prices(meter)))
            for price in route.prices(meter):
                self.assertEqual(meter(route.trip_for(meter, price)), price)
            longer = Route([("road", 4, 2), ("light", 1), ("road", 5, 3)])
            stepper = Meter(meter.first, meter.drop, [Table.both(0, 2)], flag=meter.flag, each=meter.each)
            self.assertIsNone(dearer_waits(route, longer, stepper))


if __name__ == "__main__":
    unittest.main()
