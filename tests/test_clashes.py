"""Tests of cabmeters.clashes: points [34] to [37], and points [3] and [4] for them."""

import copy
import itertools
import random
import time
import unittest

from cabmeters.clashes import (
    best_look, fewest_clash, greatest_worth, kept_facts, least_worth, look_numbers, needless_facts, record_of)
from cabmeters.errors import BadNumber, BadTold, BadWorths
from cabmeters.meters import Meter
from cabmeters.records import Record
from cabmeters.tables import Table
from tests import plain
from tests.samples import (
    HUGE, any_fact, any_meter, any_record, cab_meter, caught, check_given, double_meter, no_numbers, no_strings,
    small_records, tell, triple_meter)


def full_record():
    """Return the record with three facts that the interface shows."""
    record = Record(cab_meter(), 2)
    record.showed(2, 50)
    record.passed(1, 3)
    record.jumped(0, False)
    return record


def state(record):
    """Return all that a record tells of itself."""
    return record.facts(), [record[tick] for tick in range(len(record))], record.how_many(), record.top, record.meter


def looks_of(record):
    """Return the list of all looks of a record, in the order of the document."""
    ticks = len(record)
    return ([("speed", tick) for tick in range(ticks)] + [("way", tick) for tick in range(ticks + 1)]
            + [("price", tick) for tick in range(ticks + 1)])


def seen(row, look):
    """Return what a look tells of the trip of a row."""
    kind, tick = look
    trip, ways, prices = row
    return {"speed": lambda: int(trip[tick]), "way": lambda: ways[tick], "price": lambda: prices[tick]}[kind]()


def numbers_seen(rows, look):
    """Return a dict from what a look tells of trips to their numbers."""
    found = {}
    for row in rows:
        found[seen(row, look)] = found.get(seen(row, look), 0) + 1
    return found


def crowded_records():
    """Return a list of records with up to eight facts, of which most cannot all be true."""
    sizes = ((2, 9), (3, 9), (3, 4), (4, 3), (5, 2), (0, 9), (1, 9))
    found = []
    for seed in range(70):
        some = random.Random(seed)
        ticks, top = sizes[seed % len(sizes)]
        record = Record(any_meter(seed, 9, 12), ticks, top)
        for _ in range(some.randint(3, 8)):
            trip = "".join(some.choices("0123456789"[:top + 1], k=ticks))
            tell(record, any_fact(some, record, trip))
        if some.random() < 0.3:
            tell(record, record.facts()[0])
        found.append(record)
    return found


class FactsTest(unittest.TestCase):
    def fitting(self, record, numbers):
        """Return the list of all trips that fit the facts with these numbers."""
        facts = record.facts()
        return [trip for trip in plain.all_trips(len(record), record.top)
                if all(plain.agrees(record.meter, facts[number], trip) for number in numbers)]

    def test_record_of(self):
        for record in small_records()[::3]:
            many = len(record.facts())
            for numbers in ([], list(range(many)), list(range(many))[::-1], list(range(many))[1:], [0, 0][:many]):
                other = record_of(record, numbers)
                self.assertIsInstance(other, Record)
                self.assertIsNot(other, record)
                self.assertIs(other.meter, record.meter)
                self.assertEqual((len(other), other.top), (len(record), record.top))
                self.assertEqual(other.facts(), [record.facts()[number] for number in numbers])
                self.assertEqual(list(other.trips()), self.fitting(record, numbers))

    def test_record_of_a_number_that_stands_twice_and_of_none(self):
        record = full_record()
        self.assertEqual(record_of(record, [1, 0, 1]).facts(), [("passed", 1, 3), ("showed", 2, 50), ("passed", 1, 3)])
        self.assertEqual(record_of(record, [1]).how_many(), 10)
        self.assertEqual(record_of(record, []).how_many(), 100)
        self.assertEqual(record_of(Record(cab_meter(), 0), []).how_many(), 1)

    def test_record_of_is_another_record(self):
        record = full_record()
        before = state(record)
        numbers = [0, 2]
        other = record_of(record, numbers)
        other.passed(2, 7)
        numbers.append(1)
        other[0] = "5"
        self.assertEqual(state(record), before)
        self.assertEqual(other.facts(), [record.facts()[0], record.facts()[2], ("passed", 2, 7), ("speeds", 0, "5")])
        self.assertEqual(numbers, [0, 2, 1])

    def test_record_of_wrong_numbers(self):
        record = full_record()
        before = state(record)
        for value in no_numbers(0, 2):
            check_given(self, BadNumber, value, record_of, record, [value])
            check_given(self, BadNumber, value, record_of, record, [0, value, -1, None])
        check_given(self, BadNumber, 0, record_of, Record(cab_meter(), 2), [0])
        self.assertEqual(state(record), before)

    def test_facts_compared_with_all_trips(self):
        clashes = 0
        for record in small_records() + crowded_records():
            many = len(record.facts())
            full = self.fitting(record, range(many))
            before = state(record)
            with self.subTest(facts=record.facts(), meter=record.meter.text()):
                self.assertEqual(needless_facts(record), [
                    number for number in range(many)
                    if self.fitting(record, [other for other in range(many) if other != number]) == full])
                kept = list(range(many))
                for number in reversed(range(many)):
                    without = [other for other in kept if other != number]
                    if self.fitting(record, without) == full:
                        kept = without
                self.assertEqual(kept_facts(record), kept)
                self.assertEqual(list(record_of(record, kept_facts(record)).trips()), full)
                clash = None
                for size in range(1, many + 1):
                    for numbers in itertools.combinations(range(many), size):
                        if not full and clash is None and not self.fitting(record, numbers):
                            clash = list(numbers)
                self.assertEqual(fewest_clash(record), clash)
                self.assertEqual(state(record), before)
                clashes += clash is not None and len(clash) > 1
        self.assertGreater(clashes, 20)

    def test_several_clashes_of_equally_few_facts(self):
        record = Record(cab_meter(), 3)
        for way in (20, 20, 7, 7, 30):
            record.passed(2, way)
        self.assertEqual(fewest_clash(record), [0])
        record = Record(cab_meter(), 3)
        for way in (12, 12, 7, 7, 13):
            record.passed(2, way)
        self.assertEqual(fewest_clash(record), [0, 2])
        self.assertEqual([needless_facts(record), kept_facts(record)], [[0, 1, 2, 3, 4], [0, 2]])

    def test_clash_of_many_facts(self):
        record = Record(cab_meter(), 8, 1)
        for tick in range(7):
            record[tick] = "0"
        record.passed(8, 2)
        self.assertEqual(fewest_clash(record), [0, 1, 2, 3, 4, 5, 6, 7])
        self.assertEqual([needless_facts(record), kept_facts(record)], [[], [0, 1, 2, 3, 4, 5, 6, 7]])

    def test_facts_told_twice(self):
        record = Record(cab_meter(), 2)
        record.passed(1, 3)
        record.passed(1, 3)
        self.assertEqual([needless_facts(record), kept_facts(record), fewest_clash(record)], [[0, 1], [0], None])
        record.showed(1, 50)
        record.showed(1, 50)
        self.assertEqual(fewest_clash(record), [0, 2])

    def test_no_facts(self):
        record = Record(double_meter(), 3)
        self.assertEqual([needless_facts(record), kept_facts(record), fewest_clash(record)], [[], [], None])

    def test_a_fact_that_no_trip_has(self):
        record = Record(cab_meter(), 3)
        record.passed(1, 3)
        record.showed(2, 31)
        record.passed(0, 1)
        self.assertEqual(fewest_clash(record), [1])
        self.assertEqual([needless_facts(record), kept_facts(record)], [[0, 1, 2], [1]])
        record = Record(cab_meter(), 3, 4)
        record[0] = "56789"
        self.assertEqual([fewest_clash(record), needless_facts(record)], [[0], []])

    def test_eight_facts_about_40_ticks_end_soon(self):
        for meter in (cab_meter(), double_meter(), triple_meter(), any_meter(3)):
            record = Record(meter, 40)
            for tick in (5, 10, 15, 20, 25, 30):
                record.passed(tick, 4 * tick)
            record.showed(40, meter("4" * 40))
            begin = time.perf_counter()
            self.assertIsNone(fewest_clash(record))
            record.passed(40, 400)
            self.assertEqual(fewest_clash(record), [7])
            record = record_of(record, [0, 1, 2, 3, 4, 5, 6])
            record.passed(40, 211)
            self.assertEqual(fewest_clash(record), [5, 7])
            self.assertEqual(kept_facts(record), [5, 7])
            self.assertLess(time.perf_counter() - begin, 10)

    def test_returned_lists_are_new(self):
        record = full_record()
        for call in (needless_facts, kept_facts):
            call(record).append(7)
        self.assertEqual([needless_facts(record), kept_facts(record)], [[2], [0, 1]])
        record.showed(1, 40)
        fewest_clash(record).append(7)
        self.assertEqual(fewest_clash(record), [1, 3])


class LooksTest(unittest.TestCase):
    def test_compared_with_all_trips(self):
        nones = 0
        for record in small_records() + [any_record(seed, 4, 5, 60, 60) for seed in range(20)]:
            rows = plain.rows(record)
            before = state(record)
            best = None
            with self.subTest(facts=record.facts(), meter=record.meter.text()):
                for look in looks_of(record):
                    expected = numbers_seen(rows, look)
                    self.assertEqual(look_numbers(record, look), expected)
                    if rows and (best is None or max(expected.values()) < best[1]):
                        best = (look, max(expected.values()))
                self.assertEqual(best_look(record), best)
                self.assertEqual(state(record), before)
                nones += best is None
        self.assertGreater(nones, 5)

    def test_equal_looks(self):
        self.assertEqual(best_look(Record(cab_meter(), 0)), (("way", 0), 1))
        self.assertEqual(best_look(Record(cab_meter(), 0, 0)), (("way", 0), 1))
        self.assertEqual(best_look(Record(cab_meter(), 3, 0)), (("speed", 0), 1))
        self.assertEqual(best_look(Record(cab_meter(), 1)), (("speed", 0), 1))
        record = Record(cab_meter(), 3)
        record[0] = "2"
        record[2] = "5"
        # The ways before the ticks 2 and 3 tell as much, and come later.
        self.assertEqual(best_look(record), (("speed", 1), 1))
        record = Record(Meter(1, 1, [Table.both(0, 1)]), 2)
        record[1] = "03"
        self.assertEqual(best_look(record), (("speed", 0), 2))

    def test_a_record_that_no_trip_fits(self):
        record = Record(cab_meter(), 2)
        record.passed(1, 20)
        self.assertIsNone(best_look(record))
        self.assertEqual([look_numbers(record, look) for look in looks_of(record)], [{}] * 8)

    def test_16_ticks_compared_with_counting_place_by_place(self):
        for meter, facts in (
                (cab_meter(), []), (double_meter(), [("passed", 7, 30)]),
                (triple_meter(), [("showed", 16, triple_meter()("5" * 16))]),
                (cab_meter(), [("passed", 16, 90), ("jumped", 0, False), ("passed", 9, 40), ("speeds", 5, "0159")])):
            record = Record(meter, 16)
            for fact in facts:
                tell(record, fact)
            fronts, backs, _ = plain.layers(record)
            total = record.how_many()
            for tick in (0, 1, 5, 7, 8, 9, 12, 15, 16):
                ways, prices = {}, {}
                for (count, way), number in backs[tick].items():
                    number *= fronts[tick][count, way]
                    price = plain.price(meter, count)
                    ways[way] = ways.get(way, 0) + number
                    prices[price] = prices.get(price, 0) + number
                self.assertEqual(look_numbers(record, ("way", tick)), ways)
                self.assertEqual(look_numbers(record, ("price", tick)), prices)
                if tick < 16:
                    speeds = {}
                    for speed in map(int, record[tick]):
                        other = Record(meter, 16)
                        for fact in facts + [("speeds", tick, str(speed))]:
                            tell(other, fact)
                        speeds[speed] = other.how_many()
                    self.assertEqual(look_numbers(record, ("speed", tick)), {
                        speed: number for speed, number in speeds.items() if number})
            look, worst = best_look(record)
            greatest = [max(look_numbers(record, other).values()) for other in looks_of(record)]
            self.assertEqual((worst, look), (min(greatest), looks_of(record)[greatest.index(worst)]))
            self.assertTrue(all(sum(look_numbers(record, other).values()) == total for other in looks_of(record)[::17]))

    def test_all_trips_of_40_ticks(self):
        numbers = {0: 1}
        for _ in range(20):
            numbers = {way: sum(numbers.get(way - speed, 0) for speed in range(10)) for way in range(max(numbers) + 10)}
        for meter in (cab_meter(), Meter(5, 5, [Table([0] * 10)]), triple_meter()):
            record = Record(meter, 40)
            self.assertEqual(look_numbers(record, ("way", 20)), {way: 10 ** 20 * numbers[way] for way in numbers})
            for look in (("speed", 20), ("way", 40), ("price", 20), ("price", 40)):
                self.assertEqual(sum(look_numbers(record, look).values()), 10 ** 40)
            record.passed(40, 180)
            total = sum(numbers[way] * numbers.get(180 - way, 0) for way in numbers)
            self.assertEqual(look_numbers(record, ("way", 20)), {
                way: numbers[way] * numbers[180 - way] for way in numbers if 180 - way in numbers})
            for look in (("speed", 20), ("speed", 39), ("way", 39), ("price", 20), ("price", 40)):
                self.assertEqual(sum(look_numbers(record, look).values()), total)
            self.assertEqual(record.how_many(), total)

    def test_40_ticks_end_soon(self):
        for meter in (cab_meter(), double_meter(), triple_meter(), any_meter(3), any_meter(4)):
            begin = time.perf_counter()
            record = Record(meter, 40)
            best_look(record)
            record.showed(40, meter("55555" * 8))
            best_look(record)
            record.passed(25, 120)
            best_look(record)
            self.assertLess(time.perf_counter() - begin, 15)

    def test_wrong_looks(self):
        record = full_record()
        before = state(record)
        wrong = [("speed", 2), ("speed", -1), ("way", 3), ("price", 3), ("price", -1), ("speed", HUGE), ("way", -HUGE),
                 ("speed", True), ("way", False), ("price", None), ("speed", "0"), ("way", (0,)), ("stand", 0), ("", 0),
                 ("speed",), ("speed", 0, 0), ("way", 1, 1), ["way", 1], "way", (1, "way"), (None, 1), (["way"], 1),
                 ("speed", [0]), (("way", 1),), ("way", record), (record, 1), "way1", "w1", {"way": 1}, ("Way", 1)]
        for value in wrong + no_strings():
            check_given(self, BadTold, value, look_numbers, record, value)
        check_given(self, BadTold, ("speed", 0), look_numbers, Record(cab_meter(), 0), ("speed", 0))
        self.assertEqual(look_numbers(Record(cab_meter(), 0), ("way", 0)), {0: 1})
        self.assertEqual(state(record), before)

    def test_wrong_looks_at_a_record_that_no_trip_fits(self):
        record = Record(cab_meter(), 2)
        record.passed(1, 20)
        check_given(self, BadTold, ("speed", 2), look_numbers, record, ("speed", 2))

    def test_returned_dicts_are_new(self):
        record = full_record()
        look_numbers(record, ("price", 1))[30] = 7
        self.assertEqual(look_numbers(record, ("price", 1)), {30: 3})


class WorthsTest(unittest.TestCase):
    def amount(self, worths, trip):
        return sum(row[int(digit)] for row, digit in zip(worths, trip))

    def check(self, record, worths, trips):
        expected = [self.amount(worths, trip) for trip in trips]
        copied = copy.deepcopy(worths)
        for call, best in ((least_worth, min), (greatest_worth, max)):
            found = call(record, worths)
            if not trips:
                self.assertIsNone(found)
            else:
                self.assertIsInstance(found, tuple)
                amount, trip = found
                self.assertEqual(amount, best(expected))
                self.assertIn(trip, trips)
                self.assertEqual(self.amount(worths, trip), amount)
        self.assertEqual(worths, copied)

    def test_compared_with_all_trips(self):
        for seed, record in enumerate(small_records() + [any_record(seed, 4, 5, 60, 60) for seed in range(20)]):
            some = random.Random(seed)
            trips = plain.fitting(record)
            before = state(record)
            for least, most in ((0, 0), (0, 9), (-9, 0), (-3, 3), (5, 6), (-HUGE, HUGE), (HUGE - 1, HUGE)):
                worths = [[some.randint(least, most) for _ in range(10)] for _ in range(len(record))]
                with self.subTest(facts=record.facts(), meter=record.meter.text(), worths=worths):
                    self.check(record, worths, trips)
            self.assertEqual(state(record), before)

    def test_no_ticks(self):
        record = Record(cab_meter(), 0)
        self.assertEqual([least_worth(record, []), greatest_worth(record, [])], [(0, ""), (0, "")])
        record.passed(0, 1)
        self.assertEqual([least_worth(record, []), greatest_worth(record, [])], [None, None])

    def test_sums_of_all_small_sizes(self):
        for ticks in range(1, 12):
            for size in range(1, 9):
                record = Record(double_meter(), ticks, 1)
                worths = [[0, size] + [9 * size] * 8 for _ in range(ticks)]
                self.assertEqual(greatest_worth(record, worths), (size * ticks, "1" * ticks))
                self.assertEqual(least_worth(record, worths), (0, "0" * ticks))
                turned = [[size, 0] + [-size] * 8 for _ in range(ticks)]
                self.assertEqual(greatest_worth(record, turned), (size * ticks, "0" * ticks))
                self.assertEqual(least_worth(record, turned), (0, "1" * ticks))

    def test_16_ticks_compared_with_steps_from_place_to_place(self):
        some = random.Random(37)
        for meter, facts in (
                (cab_meter(), []), (double_meter(), [("passed", 7, 30)]), (triple_meter(), [("passed", 16, 80)]),
                (cab_meter(), [("showed", 16, 330), ("passed", 9, 40), ("jumped", 0, False)])):
            record = Record(meter, 16)
            for fact in facts:
                tell(record, fact)
            worths = [[some.randint(-99, 99) for _ in range(10)] for _ in range(16)]
            fronts, backs, _ = plain.layers(record)
            best = {(0, 0): (0, 0)}
            for tick in range(16):
                behind = {}
                for (count, way), (least, greatest) in best.items():
                    for digit in record[tick]:
                        ahead = count + plain.worths_at(meter, count)[int(digit)]
                        place = (ahead, way + int(digit))
                        jumped = plain.jumps_at(meter, ahead) > plain.jumps_at(meter, count)
                        if place in backs[tick + 1] and not (jumped and ("jumped", tick, False) in facts):
                            worth = worths[tick][int(digit)]
                            low, high = behind.get(place, (least + worth, greatest + worth))
                            behind[place] = min(low, least + worth), max(high, greatest + worth)
                best = behind
            for call, expected in ((least_worth, min(low for low, _ in best.values())),
                                   (greatest_worth, max(high for _, high in best.values()))):
                amount, trip = call(record, worths)
                self.assertEqual(amount, expected)
                self.assertEqual(self.amount(worths, trip), amount)
                self.assertTrue(record.fits(trip))

    def test_40_ticks_end_soon(self):
        some = random.Random(38)
        for meter in (cab_meter(), double_meter(), any_meter(3), any_meter(4)):
            for size in (9, HUGE):
                begin = time.perf_counter()
                worths = [[some.randint(-size, size) for _ in range(10)] for _ in range(40)]
                record = Record(meter, 40)
                least_worth(record, worths)
                record.passed(30, 140)
                amount, trip = greatest_worth(record, worths)
                self.assertTrue(record.fits(trip))
                self.assertEqual(self.amount(worths, trip), amount)
                self.assertLess(time.perf_counter() - begin, 10)

    def test_wrong_worths(self):
        record = full_record()
        before = state(record)
        row = list(range(10))
        wrong = [[], [row], [row] * 3, (row, row), [row, tuple(row)], [row, row[1:]], [row, row + [1]], [row, None],
                 [row, row[:9] + [True]], [[False] + row[1:], row], [row, row[:9] + ["9"]], [row, row[:9] + [None]],
                 [row, row[:9] + [[9]]], [row, "0123456789"], ["0123456789"] * 2, [row, {}], {0: row, 1: row},
                 [row, {number: number for number in row}], [row, record], [record] * 2, [[record] * 10] * 2]
        for value in wrong + no_strings() + ["", "5"]:
            for call in (least_worth, greatest_worth):
                check_given(self, BadWorths, value, call, record, value)
        self.assertEqual(state(record), before)
        none_fit = Record(cab_meter(), 2)
        none_fit.passed(1, 20)
        caught(self, BadWorths, least_worth, none_fit, [row])
        caught(self, BadWorths, greatest_worth, Record(cab_meter(), 0), [row])


if __name__ == "__main__":
    unittest.main()
