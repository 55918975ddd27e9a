"""Tests of cabmeters.against: points [38] to [42], and points [3] and [4] for them; and of cabmeters.graphs."""

import itertools
import random
import time
import unittest

from cabmeters.against import (
    alike_pairs, excess_amounts, excess_ring, greatest_excess, is_alike_pairs, is_excess_amounts, never_dearer,
    parting_trip)
from cabmeters.errors import BadTop
from cabmeters.meters import Meter
from cabmeters.tables import Table
from tests import plain
from tests.samples import any_meter, cab_meter, check_given, double_meter, no_numbers, triple_meter

CALLS = (parting_trip, alike_pairs, greatest_excess, excess_ring, never_dearer, excess_amounts)


def slow_meter():
    """Return the slower meter that the interface shows."""
    return Meter(10, 6, [Table.either(5, 2)], flag=30, each=10)


def small_meter(seed):
    """Return a meter with few stands, always the same for a seed."""
    some = random.Random(seed)
    tables = [Table([some.choice((0, 1, 2, 3, 4, 6)) for _ in range(10)]) for _ in range(some.choice((1, 1, 2, 3)))]
    turns = sorted(some.sample(range(1, 4), len(tables) - 1))
    return Meter(some.randint(1, 5), some.randint(1, 5), tables, turns,
                 flag=some.choice((0, 0, 3)), each=some.randint(1, 3))


def dearer(meter, some):
    """Return a meter whose worths are those of a meter or somewhat greater ones."""
    tables = [Table([worth + some.choice((0, 0, 1)) for worth in table.worths]) for table in meter.tables]
    return Meter(meter.first, meter.drop, tables, list(meter.turns), flag=meter.flag, each=meter.each)


def doubled(meter):
    """Return a meter that shows the same prices as another one, but counts in units of half the size."""
    tables = [Table([2 * worth for worth in table.worths]) for table in meter.tables]
    return Meter(2 * meter.first, 2 * meter.drop, tables, list(meter.turns), flag=meter.flag, each=meter.each)


def small_pairs():
    """Return a list of tuples (one, other, top) of meters with few stands."""
    found = []
    for seed in range(80):
        some = random.Random(seed)
        one = small_meter(seed)
        other = (small_meter(seed + 1000), dearer(one, some), doubled(one), one,
                 Meter(one.first, one.drop, list(one.tables), one.turns, flag=one.flag + 1, each=one.each))[seed % 5]
        found.append((one, other, some.choice((0, 1, 2, 3, 9))))
        found.append((other, one, some.choice((0, 1, 2, 3, 9))))
    return found


def excess(one, other, trip):
    """Return the price of a trip by one meter less that by another one."""
    return plain.price(one, plain.counts(one, trip)[-1]) - plain.price(other, plain.counts(other, trip)[-1])


def parted(one, other, top, most):
    """Return the least number of ticks, up to a greatest one, of a trip that two meters tell apart, or None."""
    stands = {(one.start, other.start)}
    if one.flag != other.flag:
        return 0
    for ticks in range(1, most + 1):
        steps = [(plain.following(one, stand, speed), plain.following(other, other_stand, speed))
                 for stand, other_stand in stands for speed in range(top + 1)]
        if any(one.each * step[1] != other.each * other_step[1] for step, other_step in steps):
            return ticks
        stands = {(step[0], other_step[0]) for step, other_step in steps}
    return None


class PartingTest(unittest.TestCase):
    def check_parting(self, one, other, trip, ticks, top):
        self.assertEqual(len(trip), ticks)
        self.assertTrue(all(digit <= str(top) for digit in trip))
        self.assertNotEqual(excess(one, other, trip), 0)

    def test_compared_with_all_trips(self):
        lengths = {}
        for one, other, top in small_pairs():
            most = {0: 12, 1: 7, 2: 5, 3: 4, 9: 3}[top]
            least = min([len(trip) for ticks in range(most + 1) for trip in plain.all_trips(ticks, top)
                         if excess(one, other, trip) != 0], default=None)
            trip = parting_trip(one, other, top)
            with self.subTest(one=one.text(), other=other.text(), top=top):
                if least is not None:
                    self.check_parting(one, other, trip, least, top)
                elif trip is not None:
                    self.check_parting(one, other, trip, parted(one, other, top, 200), top)
                    self.assertGreater(len(trip), most)
                else:
                    ahead = plain.pairs_ahead(one, other, [(one.start, other.start)], top)
                    self.assertTrue(all(gain == 0 for row in ahead.values() for _, gain in row))
                lengths[None if trip is None else len(trip)] = True
        self.assertGreater(len(lengths), 5)
        self.assertIn(None, lengths)

    def test_unlike_flags(self):
        one, other = cab_meter(), Meter(10, 6, [Table.either(6, 2)], flag=40, each=10)
        for top in (0, 5, 9):
            self.assertEqual([parting_trip(one, other, top), alike_pairs(one, other, top)], ["", None])
            self.assertEqual(greatest_excess(other, one, top)[0], 10)
            self.assertEqual(greatest_excess(one, other, top)[0], -10)
        self.assertFalse(is_alike_pairs(one, other, alike_pairs(one, one)))
        self.assertEqual([never_dearer(one, other), never_dearer(other, one)], [True, False])

    def test_a_meter_beside_itself(self):
        for meter in (cab_meter(), double_meter(), Meter(3, 2, [Table([0] * 10)])):
            self.assertIsNone(parting_trip(meter, meter))
            self.assertEqual(alike_pairs(meter, meter), [(stand, stand) for stand in meter.stands()])
            self.assertEqual(greatest_excess(meter, meter)[0], 0)
            self.assertIsNone(excess_ring(meter, meter))
            self.assertTrue(never_dearer(meter, meter))
            self.assertEqual(excess_amounts(meter, meter), {(stand, stand): 0 for stand in meter.stands()})

    def test_the_greatest_speed_left_out_is_9(self):
        one = Meter(5, 5, [Table([1, 2, 3, 4, 5, 6, 7, 8, 9, 10])])
        other = Meter(5, 5, [Table([1, 2, 3, 4, 5, 6, 7, 8, 9, 15])])
        self.assertEqual(parting_trip(one, other), "9")
        self.assertIsNone(parting_trip(one, other, 8))
        self.assertIsNone(alike_pairs(one, other))
        pairs = alike_pairs(one, other, 8)
        self.assertEqual([is_alike_pairs(one, other, pairs, 8), is_alike_pairs(one, other, pairs)], [True, False])
        self.assertEqual([greatest_excess(other, one), greatest_excess(other, one, 8)[0]], [None, 0])
        self.assertEqual([excess_ring(other, one) is None, excess_ring(other, one, 8)], [False, None])
        self.assertEqual([never_dearer(other, one), never_dearer(other, one, 8)], [False, True])
        self.assertEqual([excess_amounts(other, one) is None, excess_amounts(other, one, 8) is None], [True, False])
        amounts = excess_amounts(other, one, 8)
        self.assertEqual(
            [is_excess_amounts(other, one, amounts, 0, 8), is_excess_amounts(other, one, amounts, 0)], [True, False])

    def test_more_than_2000_ticks(self):
        one = Meter(60, 60, [Table.both(1, 0)])
        other = Meter(60, 60, [Table([1] * 9 + [0]), Table.both(2, 0), Table.both(1, 0)], [8, 9])
        self.assertEqual(len(parting_trip(one, other, 0)), 510)
        # Both count 1 in each tick, one in rings of 60 and the other one in rings of 59 counts.
        found = greatest_excess(Meter(60, 60, [Table.both(1, 0)], each=60), Meter(59, 59, [Table.both(1, 0)], each=59))
        self.assertEqual(found[0], 58)
        self.assertGreater(len(found[1]), 2000)


class PairsTest(unittest.TestCase):
    def is_shown(self, one, other, pairs, top):
        """Tell what point 39 says of pairs, from the stands of both meters for all speeds."""
        stands = {pair[0] for pair in plain.pairs_ahead(one, one, [(one.start, one.start)], 9)}
        other_stands = {pair[0] for pair in plain.pairs_ahead(other, other, [(other.start, other.start)], 9)}
        if one.flag != other.flag or (one.start, other.start) not in pairs:
            return False
        for pair in pairs:
            if len(pair) != 2 or pair[0] not in stands or pair[1] not in other_stands:
                return False
            for speed in range(top + 1):
                stand, jumps = plain.following(one, pair[0], speed)
                other_stand, other_jumps = plain.following(other, pair[1], speed)
                if one.each * jumps != other.each * other_jumps or (stand, other_stand) not in pairs:
                    return False
        return True

    def test_compared_with_steps_along_pairs(self):
        some = random.Random(39)
        right = wrong = 0
        for one, other, top in small_pairs():
            pairs = alike_pairs(one, other, top)
            with self.subTest(one=one.text(), other=other.text(), top=top):
                self.assertEqual(pairs is None, parting_trip(one, other, top) is not None)
                if pairs is None:
                    ahead = plain.pairs_ahead(one, other, [(one.start, other.start)], top)
                    self.assertFalse(is_alike_pairs(one, other, sorted(ahead), top))
                    continue
                self.assertEqual(pairs, sorted(pairs))
                self.assertTrue(self.is_shown(one, other, pairs, top))
                self.assertTrue(is_alike_pairs(one, other, pairs, top))
                everything = list(itertools.product(one.stands(), other.stands()))
                others = [pairs[::-1], pairs + pairs[:1], everything, [], pairs[1:], pairs[:-1],
                          pairs + some.sample(everything, 1), pairs + [((0, 0), (0, 0))], pairs + [((9, 1), (0, 1))],
                          pairs + [()], pairs + [(one.start,)], pairs + [pairs[0] + pairs[0]], pairs + [((), ())],
                          pairs + [((0, 1, 1), (0, 1, 1))], [pair[::-1] for pair in pairs]]
                for changed in others:
                    given = list(changed)
                    shown = is_alike_pairs(one, other, changed, top)
                    self.assertIs(shown, self.is_shown(one, other, changed, top))
                    self.assertEqual(changed, given)
                    right += shown
                    wrong += not shown
        self.assertGreater(min(right, wrong), 100)

    def test_stands_behind_greater_speeds(self):
        # A pair may be of any stands behind trips, also behind such that are faster than the greatest speed.
        meter = Meter(7, 7, [Table([7, 1, 1, 1, 1, 1, 1, 1, 1, 1])])
        pairs = alike_pairs(meter, meter, 0)
        self.assertEqual(pairs, [((0, 7), (0, 7))])
        self.assertTrue(is_alike_pairs(meter, meter, pairs + [((0, 3), (0, 4))], 0))
        self.assertFalse(is_alike_pairs(meter, meter, pairs + [((0, 3), (0, 8))], 0))
        self.assertFalse(is_alike_pairs(meter, meter, pairs + [((0, 3), (0, 4))], 1))

    def test_returned_lists_are_new(self):
        meter = cab_meter()
        alike_pairs(meter, meter).clear()
        self.assertEqual(alike_pairs(meter, meter), [(stand, stand) for stand in meter.stands()])


class ExcessTest(unittest.TestCase):
    def test_compared_with_steps_along_pairs(self):
        kinds = {}
        for one, other, top in small_pairs():
            start = (one.start, other.start)
            ahead = plain.pairs_ahead(one, other, [start], top)
            gains = plain.greatest_gains(ahead)
            found = greatest_excess(one, other, top)
            ring = excess_ring(one, other, top)
            amounts = excess_amounts(one, other, top)
            kinds[gains is None, found is not None and found[0] > one.flag - other.flag] = True
            with self.subTest(one=one.text(), other=other.text(), top=top):
                if gains is None:
                    self.assertEqual([found, amounts, never_dearer(one, other, top)], [None, None, False])
                    self.check_ring(one, other, ring, top)
                else:
                    self.assertIsNone(ring)
                    self.assertEqual(found[0], gains[start] + one.flag - other.flag)
                    self.assertEqual(excess(one, other, found[1]), found[0])
                    self.assertTrue(all(digit <= str(top) for digit in found[1]))
                    self.assertIs(never_dearer(one, other, top), found[0] <= 0)
                    self.assertEqual(set(amounts), set(ahead))
                    self.assertTrue(is_excess_amounts(one, other, amounts, found[0], top))
                    self.assertEqual(amounts[start], gains[start])
        self.assertEqual(len(kinds), 3)

    def check_ring(self, one, other, found, top):
        """Check that a front and a ring are such as point 40 says."""
        self.assertIsInstance(found, tuple)
        front, ring = found
        self.assertGreater(len(ring), 0)
        self.assertTrue(all(digit <= str(top) for digit in front + ring))
        for meter in (one, other):
            self.assertEqual(plain.stand(meter, front), plain.stand(meter, front + ring))
        self.assertGreater(excess(one, other, front + ring), excess(one, other, front))

    def test_compared_with_all_trips(self):
        for one, other, top in small_pairs()[::3]:
            found = greatest_excess(one, other, top)
            most = {0: 12, 1: 7, 2: 5, 3: 4, 9: 3}[top]
            if found is not None:
                greatest = max(excess(one, other, trip) for ticks in range(most) for trip in plain.all_trips(ticks, top))
                self.assertGreaterEqual(found[0], greatest)
                self.assertLessEqual(found[0] > greatest, len(found[1]) >= most)

    def is_shown(self, one, other, amounts, number, top):
        """Tell what point 42 says of amounts."""
        stands = {pair[0] for pair in plain.pairs_ahead(one, one, [(one.start, one.start)], 9)}
        other_stands = {pair[0] for pair in plain.pairs_ahead(other, other, [(other.start, other.start)], 9)}
        if amounts.get((one.start, other.start)) != number - one.flag + other.flag or min(amounts.values()) < 0:
            return False
        for pair, amount in amounts.items():
            if len(pair) != 2 or pair[0] not in stands or pair[1] not in other_stands:
                return False
            for behind, gain in plain.pairs_ahead(one, other, [pair], top)[pair]:
                if behind not in amounts or amount < amounts[behind] + gain:
                    return False
        return True

    def test_papers_of_all_kinds(self):
        some = random.Random(42)
        told = {True: 0, False: 0}
        for one, other, top in small_pairs():
            amounts = excess_amounts(one, other, top)
            if amounts is None:
                ahead = plain.pairs_ahead(one, other, [(one.start, other.start)], top)
                amounts = {pair: some.randint(0, 9) for pair in ahead}
                amounts[one.start, other.start] = 9 + other.flag - one.flag
                self.assertFalse(is_excess_amounts(one, other, amounts, 9, top))
                continue
            number = greatest_excess(one, other, top)[0]
            start = (one.start, other.start)
            pair = some.choice(sorted(amounts))
            stands = list(itertools.product(one.stands(), other.stands()))
            more = {each: amount + 3 for each, amount in amounts.items()}
            papers = [(amounts, number), (amounts, number + 1), (amounts, number - 1), (more, number + 3), (more, number),
                      (more, number + 4), ({}, number), ({start: amounts[start]}, number),
                      ({**amounts, pair: amounts[pair] - 1}, number), ({**amounts, pair: amounts[pair] + 1}, number),
                      ({**amounts, pair: -1}, number), ({**amounts, some.choice(stands): 50}, number),
                      ({**amounts, ((0, 0), (0, 0)): 50}, number), ({**amounts, (): 50}, number),
                      ({**amounts, (one.start,): 50}, number), ({**amounts, ((), ()): 50}, number),
                      ({each: amount for each, amount in amounts.items() if each != pair}, number)]
            for paper, at_most in papers:
                given = dict(paper)
                with self.subTest(one=one.text(), other=other.text(), top=top, paper=paper, at_most=at_most):
                    shown = is_excess_amounts(one, other, paper, at_most, top)
                    self.assertIs(shown, bool(paper) and self.is_shown(one, other, paper, at_most, top))
                    self.assertEqual(paper, given)
                    told[shown] += 1
        self.assertGreater(min(told.values()), 100)

    def test_amounts_below_0(self):
        # Without a jump in any tick, an amount below 0 would agree with all others.
        meter = Meter(5, 5, [Table([0] * 10)])
        self.assertEqual(excess_amounts(meter, meter), {((0, 5), (0, 5)): 0})
        self.assertFalse(is_excess_amounts(meter, meter, {((0, 5), (0, 5)): -1}, -1))
        self.assertTrue(is_excess_amounts(meter, meter, {((0, 5), (0, 5)): 1}, 1))

    def test_an_excess_that_stays_and_one_that_grows(self):
        one = Meter(5, 5, [Table.both(2, 0), Table.both(1, 0)], [3])
        other = Meter(5, 5, [Table.both(1, 0)])
        self.assertEqual(greatest_excess(one, other)[0], 2)
        self.assertEqual(greatest_excess(other, one)[0], 0)
        self.assertIsNone(greatest_excess(Meter(5, 5, [Table.both(1, 0), Table.both(2, 0)], [9]), other))
        front, ring = excess_ring(Meter(5, 5, [Table.both(1, 0), Table.both(2, 0)], [9]), other)
        self.assertGreaterEqual(len(front), 41)
        self.check_ring(Meter(5, 5, [Table.both(1, 0), Table.both(2, 0)], [9]), other, (front, ring), 9)

    def test_a_ring_behind_an_empty_front(self):
        one, other = Meter(1, 1, [Table.both(1, 0)]), Meter(2, 2, [Table.both(1, 0)])
        self.assertEqual([len(part) for part in excess_ring(one, other, 0)][1] % 2, 0)
        self.check_ring(one, other, excess_ring(one, other, 0), 0)
        one, other = Meter(1, 1, [Table.both(1, 0)], each=2), Meter(1, 1, [Table.both(1, 0)])
        self.assertEqual(excess_ring(one, other, 0), ("", "0"))

    def test_many_pairs_end_soon(self):
        some = random.Random(4)
        begin = time.perf_counter()
        for kind in range(4):
            tables = [Table([some.randint(0, 30) for _ in range(10)]) for _ in range(2)]
            more = Table([2 * worth + some.randint(0, 3) if worth < 29 else worth for worth in tables[0].worths])
            pairs = ((Meter(60, 60, tables[:1], each=7), Meter(59, 59, tables[1:], each=9)),
                     (Meter(60, 60, tables[:1], each=10), Meter(59, 59, [more], each=60)),
                     (Meter(60, 60, [Table.both(1, 0)]), Meter(59, 59, [Table.both(1, 0)])),
                     (Meter(59, 60, [Table.both(1, 0)], each=60), Meter(60, 59, [Table.both(1, 0)], each=59)))[kind]
            for one, other in (pairs, pairs[::-1]):
                self.assertEqual(greatest_excess(one, other) is None, excess_ring(one, other) is not None)
                amounts = excess_amounts(one, other)
                if amounts is not None:
                    self.assertTrue(is_excess_amounts(one, other, amounts, greatest_excess(one, other)[0]))
                else:
                    self.check_ring(one, other, excess_ring(one, other), 9)
                parting_trip(one, other)
                self.assertTrue(is_alike_pairs(one, one, alike_pairs(one, one)))
        self.assertLess(time.perf_counter() - begin, 30)

    def test_returned_dicts_are_new(self):
        one, other = slow_meter(), cab_meter()
        amounts = excess_amounts(one, other)
        before = dict(amounts)
        amounts.clear()
        self.assertEqual(excess_amounts(one, other), before)


class WrongTest(unittest.TestCase):
    def test_wrong_tops(self):
        meters = (cab_meter(), slow_meter())
        before = [meter.text() for meter in meters]
        for value in no_numbers(0, 9):
            for call in CALLS:
                check_given(self, BadTop, value, call, *meters, value)
            check_given(self, BadTop, value, is_alike_pairs, *meters, [], value)
            check_given(self, BadTop, value, is_excess_amounts, *meters, {}, 0, value)
            check_given(self, BadTop, value, parting_trip, meters[0], triple_meter(), value)
        self.assertEqual([meter.text() for meter in meters], before)

    def test_any_meters_and_a_greatest_speed_of_0(self):
        for seed in range(20):
            one, other = any_meter(seed, 9, 9), any_meter(seed + 50, 9, 9)
            trip = parting_trip(one, other, 0)
            self.assertEqual(set(trip or "0"), {"0"})
            self.assertEqual(excess_ring(one, other, 0) is None, greatest_excess(one, other, 0) is not None)


if __name__ == "__main__":
    unittest.main()
