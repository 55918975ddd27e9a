"""Tests of cabmeters.hires: points [43] to [46], and points [3] and [4] for them."""

import itertools
import random
import time
import unittest

from cabmeters.errors import BadNumber, BadTicks, BadTop, BadTrip
from cabmeters.hires import best_split, greatest_cost, greatest_saving, is_saving_amounts, saving_amounts, split_price
from cabmeters.meters import Meter
from cabmeters.tables import Table
from tests import plain
from tests.samples import (
    HUGE, NO_TRIPS, any_meter, cab_meter, check_given, double_meter, no_numbers, no_strings, triple_meter)
from tests.test_against import small_meter


def dear_meter():
    """Return the meter of the interface whose later table is the dearer one."""
    return Meter(6, 6, [Table.both(1, 0), Table.both(3, 0)], [2])


def price_of(meter, trip):
    """Return the price behind a trip."""
    return plain.price(meter, plain.counts(meter, trip)[-1])


def split_of(meter, trip, ticks):
    """Return the sum of the prices of the parts of a split."""
    ends = [0] + list(ticks) + [len(trip)]
    return sum(price_of(meter, trip[begin:end]) for begin, end in zip(ends, ends[1:]))


def splits(trip):
    """Return the list of all splits of a trip."""
    return [list(ticks) for size in range(max(1, len(trip))) for ticks in itertools.combinations(range(1, len(trip)), size)]


def some_meters():
    """Return a list of meters of all kinds, some of which cost nothing at the beginning."""
    cheap = [Meter(12, 2, [Table.either(3, 1)]), Meter(5, 5, [Table.both(1, 0), Table.both(4, 1)], [1], flag=1)]
    return [cab_meter(), dear_meter(), double_meter(), triple_meter()] + cheap + [any_meter(seed, 9, 9) for seed in range(9)]


class SplitsTest(unittest.TestCase):
    def test_compared_with_all_splits(self):
        some = random.Random(44)
        for meter in some_meters() + [small_meter(seed) for seed in range(20)]:
            for ticks in (0, 1, 2, 5, 8):
                trip = "".join(some.choices("0123456789", k=ticks))
                prices = {tuple(split): split_of(meter, trip, split) for split in splits(trip)}
                for split in some.sample(sorted(prices), min(len(prices), 20)):
                    given = list(split)
                    self.assertEqual(split_price(meter, trip, given), prices[split])
                    self.assertEqual(given, list(split))
                for most in (None, 1, 2, 3, 4, ticks, ticks + 1, HUGE):
                    if most == 0:
                        continue
                    found = best_split(meter, trip, most) if most else best_split(meter, trip)
                    with self.subTest(meter=meter.text(), trip=trip, most=most):
                        self.assertIsInstance(found, tuple)
                        price, best = found
                        self.assertIsInstance(best, list)
                        least = min(price for split, price in prices.items() if most is None or len(split) < most)
                        self.assertEqual([price, prices[tuple(best)]], [least, least])
                        self.assertTrue(most is None or len(best) < most)

    def test_the_empty_trip(self):
        for meter in some_meters():
            self.assertEqual(split_price(meter, "", []), meter.flag)
            for most in (None, 1, 2):
                self.assertEqual(best_split(meter, "", most), (meter.flag, []))

    def test_hires_of_one_tick_each(self):
        meter = Meter(7, 1, [Table.either(6, 2)])
        self.assertEqual(split_price(meter, "0000", [1, 2, 3]), 0)
        self.assertEqual(best_split(meter, "0000"), (0, [1, 2, 3]))
        self.assertEqual(best_split(meter, "0000", 4), (0, [1, 2, 3]))
        self.assertEqual(best_split(meter, "0000", 3)[0], 6)
        self.assertEqual(best_split(meter, "0000", 1), (18, []))
        self.assertEqual(best_split(meter, "0000", None), (0, [1, 2, 3]))

    def test_two_hires_that_cost_more_than_one_and_more_than_three(self):
        # A part costs nothing but the flag up to 3 ticks, and the same from 4 ticks on.
        meter = Meter(4, 60, [Table.both(1, 0), Table([0] * 10)], [1], flag=1, each=100)
        self.assertEqual([best_split(meter, "0" * 9, most) for most in (1, 2)], [(101, [])] * 2)
        self.assertEqual([best_split(meter, "0" * 9, most) for most in (3, 4, None)], [(3, [3, 6])] * 3)
        self.assertEqual([best_split(meter, "0" * 10, most)[0] for most in (1, 2, 3, 4)], [101, 101, 101, 4])

    def test_300_ticks_compared_with_parts_that_are_added_one_by_one(self):
        some = random.Random(300)
        for meter, most in ((dear_meter(), None), (Meter(40, 1, [Table.either(7, 3)], flag=1), 70), (cab_meter(), 5),
                            (Meter(60, 1, [Table.both(1, 0)]), 3), (triple_meter(), None)):
            trip = "".join(some.choices("0123456789", k=300))
            parts = {}
            for begin in range(300):
                for place, count in enumerate(plain.counts(meter, trip[begin:])[1:]):
                    parts[begin, begin + place + 1] = meter.price_at(count)
            least = [0] + [None] * 300
            rounds = 0
            while rounds < (most or 300):
                behind = [0] + [min([least[begin] + parts[begin, end] for begin in range(end) if least[begin] is not None]
                                    + [least[end]] * (least[end] is not None)) for end in range(1, 301)]
                if behind == least:
                    break
                least = behind
                rounds += 1
            begin = time.perf_counter()
            price, ticks = best_split(meter, trip, most)
            self.assertLess(time.perf_counter() - begin, 5)
            self.assertEqual([price, split_price(meter, trip, ticks)], [least[300]] * 2)
            self.assertLessEqual(len(ticks) + 1, most or 300)

    def test_wrong_trips(self):
        for value in no_strings() + list(NO_TRIPS):
            check_given(self, BadTrip, value, split_price, cab_meter(), value, [])
            check_given(self, BadTrip, value, split_price, cab_meter(), value, [0])
            check_given(self, BadTrip, value, best_split, cab_meter(), value)
            check_given(self, BadTrip, value, best_split, cab_meter(), value, 0)

    def test_wrong_splits(self):
        wrong = [[0], [4], [-1], [1, 1], [2, 1], [1, 2, 2], [1, 4], [0, 1], [HUGE], [-HUGE], [True], [1, True], [False],
                 [None], ["1"], [[1]], [(1,)], [1, None], (1,), (), "12", "", {1: 2}, [1, 2, 3, 4], [1, [2]], [cab_meter()]]
        for value in wrong + [value for value in no_strings() if value != []]:
            check_given(self, BadTicks, value, split_price, cab_meter(), "0123", value)
        for trip in ("", "5"):
            for value in ([0], [1], [True], (), None):
                check_given(self, BadTicks, value, split_price, cab_meter(), trip, value)

    def test_wrong_greatest_numbers_of_hires(self):
        for value in no_numbers(1):
            if value is not None:
                for trip in ("", "0123"):
                    check_given(self, BadNumber, value, best_split, cab_meter(), trip, value)

    def test_returned_lists_are_new(self):
        meter = Meter(7, 1, [Table.either(6, 2)])
        for trip, most in (("0000", None), ("", None), ("0000", 1), ("0000", 2)):
            found = best_split(meter, trip, most)
            before = list(found[1])
            found[1].append(7)
            self.assertEqual(best_split(meter, trip, most)[1], before)


def savings_ahead(meter, top):
    """Return the pairs of the stands of a meter to which ticks lead from each stand beside the first one."""
    stands = {pair[0] for pair in plain.pairs_ahead(meter, meter, [(meter.start, meter.start)], top)}
    return stands, plain.pairs_ahead(meter, meter, [(stand, meter.start) for stand in stands], top)


class SavingsTest(unittest.TestCase):
    def cost(self, meter, front, back):
        return price_of(meter, front) + price_of(meter, back) - price_of(meter, front + back)

    def small_cases(self):
        """Return a list of tuples (meter, top) of meters with few stands."""
        tops = (9, 0, 1, 2, 5)
        return [(small_meter(seed), tops[seed % 5]) for seed in range(60)] + [(dear_meter(), 9), (cab_meter(), 9),
                                                                          (cab_meter(), 0)]

    def test_compared_with_steps_along_pairs(self):
        kinds = {}
        for meter, top in self.small_cases():
            stands, ahead = savings_ahead(meter, top)
            gains = plain.greatest_gains(ahead)
            turned = plain.pairs_ahead(meter, meter, [(meter.start, stand) for stand in stands], top)
            costs = plain.greatest_gains(turned)
            cost = greatest_cost(meter, top)
            saving = greatest_saving(meter, top)
            with self.subTest(meter=meter.text(), top=top):
                self.assertEqual([cost is None, saving is None], [costs is None, gains is None])
                if cost is not None:
                    self.assertEqual(cost[0], meter.flag + max(costs[meter.start, stand] for stand in stands))
                    self.assertEqual(cost[0], self.cost(meter, cost[1], cost[2]))
                if saving is not None:
                    self.assertEqual(saving[0], max(gains[stand, meter.start] for stand in stands) - meter.flag)
                    self.assertEqual(saving[0], -self.cost(meter, saving[1], saving[2]))
                for found in (cost, saving):
                    if found is not None:
                        self.assertIsInstance(found, tuple)
                        self.assertTrue(all(digit <= str(top) for digit in found[1] + found[2]))
            kinds[cost is None, saving is None] = True
        self.assertEqual(len(kinds), 3)

    def test_compared_with_all_trips(self):
        for meter, top in self.small_cases()[::3]:
            most = {0: 10, 1: 7, 2: 5, 5: 3, 9: 3}[top]
            costs = [self.cost(meter, trip[:at], trip[at:]) for ticks in range(most)
                     for trip in plain.all_trips(ticks, top) for at in range(ticks + 1)]
            cost, saving = greatest_cost(meter, top), greatest_saving(meter, top)
            if cost is not None:
                self.assertGreaterEqual(cost[0], max(costs))
                self.assertLessEqual(cost[0] > max(costs), len(cost[1] + cost[2]) >= most)
            if saving is not None:
                self.assertGreaterEqual(saving[0], -min(costs))
                self.assertLessEqual(saving[0] > -min(costs), len(saving[1] + saving[2]) >= most)

    def test_empty_parts(self):
        # A new hire never costs less than the flag if the meter counts for nothing at all.
        meter = Meter(5, 5, [Table([0] * 10)], flag=7)
        self.assertEqual([greatest_cost(meter)[0], greatest_saving(meter)[0]], [7, -7])
        self.assertEqual(saving_amounts(meter), {((0, 5), (0, 5)): 0})
        self.assertTrue(is_saving_amounts(meter, {((0, 5), (0, 5)): 0}, -7))

    def test_the_greatest_speed_left_out_is_9(self):
        meter = Meter(5, 5, [Table([1] * 9 + [2]), Table([1] * 9 + [40])], [3])
        self.assertEqual([greatest_saving(meter)[0] > 9, greatest_saving(meter, 8)[0]], [True, 1])
        self.assertFalse(is_saving_amounts(meter, saving_amounts(meter, 8), 1))
        self.assertTrue(is_saving_amounts(meter, saving_amounts(meter, 8), 1, 8))
        meter = Meter(5, 5, [Table([1] * 9 + [40]), Table([1] * 9 + [2])], [3])
        self.assertEqual([greatest_cost(meter)[0] > 5, greatest_cost(meter, 8)[0]], [True, 0])

    def test_a_saving_and_a_cost_that_grow_for_ever(self):
        # The cab that is taken anew stays in its first table as long as the trip stands.
        for tables in ([Table([0] + [1] * 9), Table([1] * 10)], [Table([0] + [1] * 9), Table([2] * 10)]):
            meter = Meter(2, 2, tables, [1])
            self.assertEqual([greatest_saving(meter), saving_amounts(meter)], [None, None])
            self.assertIsNotNone(greatest_cost(meter))
        meter = Meter(2, 2, [Table([1] * 10), Table([0] + [1] * 9)], [1])
        self.assertIsNotNone(greatest_cost(meter))
        meter = Meter(2, 2, [Table([0] + [1] * 9), Table([1] * 10), Table([0] + [1] * 9)], [1, 2])
        self.assertIsNotNone(greatest_saving(meter))

    def is_shown(self, meter, amounts, saving, top):
        """Tell what point 46 says of amounts."""
        every = {pair[0] for pair in plain.pairs_ahead(meter, meter, [(meter.start, meter.start)], 9)}
        stands, _ = savings_ahead(meter, top)
        for stand in stands:
            if (stand, meter.start) not in amounts or amounts[stand, meter.start] > saving + meter.flag:
                return False
        for pair, amount in amounts.items():
            if amount < 0 or len(pair) != 2 or pair[0] not in every or pair[1] not in every:
                return False
            for behind, gain in plain.pairs_ahead(meter, meter, [pair], top)[pair]:
                if behind not in amounts or amount < amounts[behind] + gain:
                    return False
        return True

    def test_papers_of_all_kinds(self):
        some = random.Random(46)
        told = {True: 0, False: 0}
        for meter, top in self.small_cases():
            amounts = saving_amounts(meter, top)
            saving = greatest_saving(meter, top)
            self.assertEqual(amounts is None, saving is None)
            if amounts is None:
                _, ahead = savings_ahead(meter, top)
                self.assertFalse(is_saving_amounts(meter, {pair: 5 for pair in ahead}, 10, top))
                continue
            self.assertTrue(self.is_shown(meter, amounts, saving[0], top))
            pair = some.choice(sorted(amounts))
            every = list(itertools.product(meter.stands(), repeat=2))
            more = {each: amount + 3 for each, amount in amounts.items()}
            papers = [amounts, more, {}, {**amounts, pair: amounts[pair] - 1}, {**amounts, pair: amounts[pair] + 1},
                      {**amounts, pair: -1}, {**amounts, some.choice(every): 50}, {**amounts, ((0, 0), (0, 0)): 50},
                      {**amounts, (): 50}, {**amounts, ((), ()): 50}, {**amounts, (meter.start,): 50},
                      {each: amount for each, amount in amounts.items() if each != pair},
                      {each: amount for each, amount in amounts.items() if each[1] == meter.start}]
            for paper in papers:
                for number in (saving[0], saving[0] + 1, saving[0] + 3, saving[0] - 1, saving[0] + 60):
                    given = dict(paper)
                    with self.subTest(meter=meter.text(), top=top, paper=paper, number=number):
                        shown = is_saving_amounts(meter, paper, number, top)
                        self.assertIs(shown, self.is_shown(meter, paper, number, top))
                        self.assertEqual(paper, given)
                        told[shown] += 1
        self.assertGreater(min(told.values()), 100)

    def test_meters_of_60_stands_end_soon(self):
        some = random.Random(60)
        begin = time.perf_counter()
        worths = [[some.randint(0, 60) for _ in range(10)] for _ in range(3)]
        for meter in (Meter(60, 60, [Table.both(1, 0)]), Meter(60, 60, [Table(worths[0])]), Meter(1, 59, [Table.either(1, 1)]),
                      Meter(20, 20, [Table(row) for row in worths], [1, 2]),
                      Meter(30, 30, [Table.both(1, 1), Table.both(1, 2)], [1])):
            self.assertLessEqual(len(meter.stands()), 60)
            cost, saving = greatest_cost(meter), greatest_saving(meter)
            amounts = saving_amounts(meter)
            if cost is not None:
                self.assertEqual(cost[0], self.cost(meter, cost[1], cost[2]))
            if saving is not None:
                self.assertEqual(saving[0], -self.cost(meter, saving[1], saving[2]))
                self.assertTrue(is_saving_amounts(meter, amounts, saving[0]))
                self.assertFalse(is_saving_amounts(meter, amounts, saving[0] - 1))
        self.assertLess(time.perf_counter() - begin, 15)

    def test_wrong_tops(self):
        for value in no_numbers(0, 9):
            for call in (greatest_cost, greatest_saving, saving_amounts):
                check_given(self, BadTop, value, call, cab_meter(), value)
            check_given(self, BadTop, value, is_saving_amounts, cab_meter(), {}, 0, value)

    def test_returned_dicts_are_new(self):
        amounts = saving_amounts(cab_meter())
        before = dict(amounts)
        amounts.clear()
        self.assertEqual(saving_amounts(cab_meter()), before)

    def test_splits_agree_with_savings(self):
        for meter in some_meters():
            saving = greatest_saving(meter, 2)
            cost = greatest_cost(meter, 2)
            for trip in plain.all_trips(4, 2)[::5]:
                whole = split_price(meter, trip, [])
                for tick in (1, 2, 3):
                    two = split_price(meter, trip, [tick])
                    self.assertTrue(saving is None or whole - two <= saving[0])
                    self.assertTrue(cost is None or two - whole <= cost[0])


if __name__ == "__main__":
    unittest.main()
