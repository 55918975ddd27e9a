"""Tests of cabmeters.longest: points [56] to [58], and points [3] and [4] for them."""

import math
import random
import time
import unittest

from cabmeters.errors import BadTicks, BadTop
from cabmeters.longest import greatest_pace, is_pace_amounts, most_by_ticks, most_in, pace_amounts
from cabmeters.meters import Meter
from cabmeters.tables import Table
from tests import plain
from tests.samples import any_meter, cab_meter, caught, check_given, double_meter, no_numbers, triple_meter
from tests.test_against import small_meter


def stepper_meter():
    """Return the meter of the interface that counts steps alone."""
    return Meter(2, 2, [Table.both(0, 1)])


def price_of(meter, trip):
    """Return the price behind a trip."""
    return plain.price(meter, plain.counts(meter, trip)[-1])


def ahead_of(meter, top):
    """Return a dict from the stands of a meter to the list of the tuples (stand, growth) of a tick with each speed."""
    nothing = Meter(1, 1, [Table([0] * 10)])
    ahead = plain.pairs_ahead(meter, nothing, [(meter.start, nothing.start)], top)
    return {pair[0]: [(behind[0], gain) for behind, gain in row] for pair, row in ahead.items()}


def best_mean(ahead):
    """Return the greatest mean of a ring as a tuple in lowest terms: that of the best row of so many ticks (Karp)."""
    least = -10 ** 9
    best = (-1, 1)
    # Each ring lies in a part that is led to from one of its own stands.
    for start in ahead:
        rows = [{start: 0}]
        for _ in range(len(ahead)):
            behind = {}
            for stand, amount in rows[-1].items():
                for other, gain in ahead[stand]:
                    behind[other] = max(behind.get(other, least), amount + gain)
            rows.append(behind)
        for ticks in range(1, len(rows)):
            if start in rows[ticks] and rows[ticks][start] * best[1] > best[0] * ticks:
                best = (rows[ticks][start], ticks)
    common = math.gcd(*best)
    return best[0] // common, best[1] // common


def some_cases():
    """Return a list of tuples (meter, top) of meters with few stands."""
    cases = [(small_meter(seed), (9, 0, 1, 2, 5)[seed % 5]) for seed in range(50)]
    return cases + [(cab_meter(), 9), (cab_meter(), 0), (double_meter(), 9), (triple_meter(), 3), (stepper_meter(), 1)]


class MostTest(unittest.TestCase):
    def test_compared_with_steps_along_stands(self):
        for meter, top in some_cases():
            ahead = ahead_of(meter, top)
            most = {stand: 0 for stand in ahead}
            expected = [0]
            for _ in range(12):
                most = {stand: max(gain + most[behind] for behind, gain in ahead[stand]) for stand in ahead}
                expected.append(max(most.values()))
            with self.subTest(meter=meter.text(), top=top):
                self.assertEqual(most_by_ticks(meter, 12, top), expected)
                for ticks in (0, 1, 2, 5, 12):
                    found = most_in(meter, ticks, top)
                    self.assertIsInstance(found, tuple)
                    amount, front, trip = found
                    self.assertEqual([amount, len(trip)], [expected[ticks], ticks])
                    self.assertEqual(price_of(meter, front + trip) - price_of(meter, front), amount)
                    self.assertTrue(all(digit <= str(top) for digit in front + trip))
                    self.assertEqual(most_by_ticks(meter, ticks, top), expected[:ticks + 1])

    def test_compared_with_all_trips(self):
        for meter, top in some_cases()[::4]:
            longest = {0: 12, 1: 7, 2: 5, 3: 4, 5: 3, 9: 3}[top]
            for ticks in range(longest):
                grown = [price_of(meter, trip) - price_of(meter, trip[:at]) for at in range(longest - ticks)
                         for trip in plain.all_trips(at + ticks, top)]
                amount, front, _ = most_in(meter, ticks, top)
                self.assertGreaterEqual(amount, max(grown))
                self.assertTrue(amount == max(grown) or len(front) + ticks >= longest)

    def test_no_ticks_and_200_ticks(self):
        for meter in (cab_meter(), double_meter(), triple_meter()):
            self.assertEqual(most_by_ticks(meter, 0), [0])
            amount, front, trip = most_in(meter, 0)
            self.assertEqual([amount, trip], [0, ""])
            amount, front, trip = most_in(meter, 200)
            self.assertEqual(len(trip), 200)
            self.assertEqual(price_of(meter, front + trip) - price_of(meter, front), amount)
            amounts = most_by_ticks(meter, 200)
            self.assertEqual([len(amounts), amounts[200]], [201, amount])
            self.assertEqual(amounts, sorted(amounts))

    def test_the_greatest_speed_left_out_is_9(self):
        meter = stepper_meter()
        self.assertEqual([most_in(meter, 1)[0], most_in(meter, 1, 8)[0], most_by_ticks(meter, 2), most_by_ticks(meter, 2, 8)],
                         [5, 4, [0, 5, 9], [0, 4, 8]])
        self.assertEqual([greatest_pace(meter)[0], greatest_pace(meter, 8)[0]], [(9, 2), (4, 1)])
        self.assertEqual([is_pace_amounts(meter, (9, 2), pace_amounts(meter)),
                          is_pace_amounts(meter, (4, 1), pace_amounts(meter, 8), 8),
                          is_pace_amounts(meter, (4, 1), pace_amounts(meter, 8))], [True, True, False])

    def test_wrong_values(self):
        meter = cab_meter()
        for call in (most_in, most_by_ticks):
            for value in no_numbers(0, 200):
                check_given(self, BadTicks, value, call, meter, value)
                check_given(self, BadTicks, value, call, meter, value, -1)
            for value in no_numbers(0, 9):
                check_given(self, BadTop, value, call, meter, 5, value)
        for call in (greatest_pace, pace_amounts):
            for value in no_numbers(0, 9):
                check_given(self, BadTop, value, call, meter, value)
        for value in no_numbers(0, 9):
            check_given(self, BadTop, value, is_pace_amounts, meter, (1, 1), {}, value)
        caught(self, BadTicks, most_in, meter, 201)

    def test_returned_lists_and_dicts_are_new(self):
        meter = cab_meter()
        most_by_ticks(meter, 3).append(7)
        self.assertEqual(len(most_by_ticks(meter, 3)), 4)
        before = pace_amounts(meter)
        pace_amounts(meter).clear()
        self.assertEqual(pace_amounts(meter), before)


class PaceTest(unittest.TestCase):
    def check_ring(self, meter, top, found):
        """Check that a front and a ring are such as point 57 says."""
        self.assertIsInstance(found, tuple)
        (upper, lower), front, ring = found
        self.assertGreater(lower, 0)
        self.assertEqual(math.gcd(upper, lower), 1)
        self.assertGreater(len(ring), 0)
        self.assertTrue(all(digit <= str(top) for digit in front + ring))
        self.assertEqual(plain.stand(meter, front), plain.stand(meter, front + ring))
        self.assertEqual((price_of(meter, front + ring) - price_of(meter, front)) * lower, upper * len(ring))

    def test_compared_with_steps_along_stands(self):
        for meter, top in some_cases():
            ahead = ahead_of(meter, top)
            found = greatest_pace(meter, top)
            with self.subTest(meter=meter.text(), top=top):
                self.check_ring(meter, top, found)
                self.assertEqual(found[0], best_mean(ahead))
                amounts = pace_amounts(meter, top)
                self.assertEqual(set(amounts), set(ahead))
                self.assertTrue(self.is_shown(ahead, found[0], amounts))
                self.assertTrue(is_pace_amounts(meter, found[0], amounts, top))

    def is_shown(self, ahead, pace, amounts):
        """Tell what point 58 says of amounts."""
        return set(amounts) == set(ahead) and all(
            amounts[stand] >= pace[1] * gain - pace[0] + amounts[behind]
            for stand in ahead for behind, gain in ahead[stand])

    def test_papers_of_all_kinds(self):
        some = random.Random(58)
        told = {True: 0, False: 0}
        for meter, top in some_cases():
            ahead = ahead_of(meter, top)
            upper, lower = greatest_pace(meter, top)[0]
            amounts = pace_amounts(meter, top)
            stand = some.choice(sorted(amounts))
            papers = [amounts, {key: amounts[key] - 7 for key in amounts}, {key: 3 * amounts[key] for key in amounts}, {},
                      {**amounts, stand: amounts[stand] + 1}, {**amounts, stand: amounts[stand] - 1},
                      {**amounts, (9, 1): 0}, {**amounts, (0, 0): 0}, {**amounts, (): 0}, {**amounts, (0, 1, 1): 0},
                      {key: amount for key, amount in amounts.items() if key != stand}, {key: 0 for key in amounts},
                      {key if key != stand else (9, 61): amount for key, amount in amounts.items()}]
            for paper in papers:
                for pace in ((upper, lower), (3 * upper, 3 * lower), (upper + 1, lower), (upper - 1, lower), (0, 1), (-1, 2)):
                    given = dict(paper)
                    with self.subTest(meter=meter.text(), top=top, pace=pace, paper=paper):
                        shown = is_pace_amounts(meter, pace, paper, top)
                        self.assertIs(shown, self.is_shown(ahead, pace, paper))
                        self.assertEqual(paper, given)
                        told[shown] += 1
        self.assertGreater(min(told.values()), 100)

    def test_a_pace_that_is_not_in_lowest_terms(self):
        meter = Meter(4, 4, [Table.both(2, 0)])
        self.assertEqual(greatest_pace(meter)[0], (1, 2))
        amounts = pace_amounts(meter)
        self.assertTrue(is_pace_amounts(meter, (1, 2), amounts))
        self.assertTrue(is_pace_amounts(meter, (2, 4), {stand: 2 * amount for stand, amount in amounts.items()}))
        # The numbers are taken as they were passed: with these amounts, twice as great ones show nothing.
        self.assertFalse(is_pace_amounts(meter, (2, 4), amounts))
        self.assertEqual(greatest_pace(cab_meter())[0], (30, 1))

    def test_a_pace_of_0(self):
        meter = Meter(5, 5, [Table([0] + [1] * 9)], flag=9)
        pace, front, ring = greatest_pace(meter, 0)
        self.assertEqual([pace, front, set(ring)], [(0, 1), "", {"0"}])
        self.assertEqual(set(pace_amounts(meter, 0)), {(0, 5)})
        self.assertTrue(is_pace_amounts(meter, (0, 1), {(0, 5): -7}, 0))
        self.assertFalse(is_pace_amounts(meter, (-1, 1), {(0, 5): -7}, 0))

    def test_a_ring_behind_a_front(self):
        meter = Meter(3, 3, [Table([1] * 10), Table([6] * 10)], [2])
        found = greatest_pace(meter, 0)
        self.assertEqual(found[0], (2, 1))
        self.assertGreaterEqual(len(found[1]), 6)
        self.check_ring(meter, 0, found)

    def test_many_stands_end_soon(self):
        begin = time.perf_counter()
        for seed in range(8):
            meter = any_meter(seed)
            found = greatest_pace(meter)
            self.check_ring(meter, 9, found)
            self.assertTrue(is_pace_amounts(meter, found[0], pace_amounts(meter)))
            most_in(meter, 200)
        self.assertLess(time.perf_counter() - begin, 10)


if __name__ == "__main__":
    unittest.main()
