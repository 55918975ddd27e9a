"""Tests of cabmeters.bent: points [47] to [50], and points [3] and [4] for them."""

import random
import time
import unittest

from cabmeters.bent import Bent, faults_that_show, hidden_pairs, telling_list, telling_trip
from cabmeters.errors import BadFault, BadNumber, BadTop, BadTrip, TooMany
from cabmeters.meters import Meter
from cabmeters.tables import Table
from tests import plain
from tests.samples import (
    HUGE, NO_TRIPS, any_meter, cab_meter, caught, check_given, double_meter, no_numbers, no_strings, triple_meter)
from tests.test_against import small_meter

FAULTS = ("lost", "twice", "idle")


def shown(meter, trip):
    """Return the list of the prices that a right or bent meter shows, counted step by step."""
    if not isinstance(meter, Bent):
        return [plain.price(meter, count) for count in plain.counts(meter, trip)]
    right, number = meter.meter, meter.number
    count = steps = 0
    prices = [plain.price(right, 0)]
    for tick, digit in enumerate(trip, 1):
        speed = 0
        for _ in range(int(digit)):
            steps += 1
            wrong = steps % number == 0
            speed += 1 if not wrong else {"lost": 0, "twice": 2, "idle": 1}[meter.fault]
        if meter.fault != "idle" or tick % number != 0:
            count += plain.worths_at(right, count)[min(speed, 9)]
        prices.append(plain.price(right, count))
    return prices


def many_stands():
    """Return a list of meters with just 120 stands, with 119 and with 121."""
    flat = Table.both(1, 0)
    return [Meter(60, 60, [flat, flat], [1]), Meter(59, 60, [flat, flat], [1]), Meter(41, 40, [flat] * 3, [1, 2])]


def small_kinds():
    """Return a list of tuples (one, other, top) of right and bent meters with few stands."""
    found = []
    for seed in range(140):
        some = random.Random(seed)
        meter = small_meter(seed)
        other = meter if some.random() < 0.7 else small_meter(seed + 1)
        bents = [Bent(right, some.choice(FAULTS), some.randint(2, 9)) for right in (meter, other)]
        found.append((*((meter, bents[1]), (bents[0], bents[1]), (bents[0], other), (bents[0], bents[0]))[seed % 4],
                      some.choice((0, 1, 1, 2, 3, 9))))
    return found


def start_of(meter):
    return (meter.meter.start, 0) if isinstance(meter, Bent) else meter.start


def step(meter, stand, speed):
    """Return the tuple (stand, gain) of a tick of a right or bent meter."""
    if not isinstance(meter, Bent):
        behind, jumps = plain.following(meter, stand, speed)
        return behind, meter.each * jumps
    inner, since = stand
    number = meter.number
    if meter.fault == "idle":
        if since + 1 == number:
            return (inner, 0), 0
        behind, jumps = plain.following(meter.meter, inner, speed)
        return (behind, since + 1), meter.meter.each * jumps
    taken = 0
    for _ in range(speed):
        since += 1
        if since == number:
            since = 0
            taken += 0 if meter.fault == "lost" else 2
        else:
            taken += 1
    behind, jumps = plain.following(meter.meter, inner, min(taken, 9))
    return (behind, since), meter.meter.each * jumps


def reached(one, other, top):
    """Return a dict from all pairs of stands to a tuple (ticks, parted): those to it, and whether a tick parts it."""
    found = {(start_of(one), start_of(other)): 0}
    waiting = list(found)
    parted = {}
    for pair in waiting:
        for speed in range(top + 1):
            behind, gain = step(one, pair[0], speed)
            other_behind, other_gain = step(other, pair[1], speed)
            if gain != other_gain:
                parted[pair] = True
            if (behind, other_behind) not in found:
                found[behind, other_behind] = found[pair] + 1
                waiting.append((behind, other_behind))
    return {pair: (ticks, pair in parted) for pair, ticks in found.items()}


class PricesTest(unittest.TestCase):
    def test_compared_with_counting_step_by_step(self):
        some = random.Random(47)
        for meter in [cab_meter(), double_meter(), triple_meter()] + [any_meter(seed, 20, 20) for seed in range(10)]:
            for fault in FAULTS:
                for number in range(2, 10):
                    bent = Bent(meter, fault, number)
                    for ticks in (0, 1, 5, 12, 40):
                        trip = "".join(some.choices("0123456789", k=ticks))
                        with self.subTest(meter=meter.text(), fault=fault, number=number, trip=trip):
                            self.assertEqual(bent.prices(trip), shown(bent, trip))
                            self.assertEqual(bent(trip), shown(bent, trip)[-1])

    def test_properties(self):
        meter = cab_meter()
        bent = Bent(meter, "twice", 7)
        self.assertIs(bent.meter, meter)
        self.assertEqual([bent.fault, bent.number], ["twice", 7])

    def test_the_empty_trip(self):
        for fault in FAULTS:
            self.assertEqual([Bent(cab_meter(), fault, 2).prices(""), Bent(cab_meter(), fault, 2)("")], [[30], 30])

    def test_several_multiples_in_one_tick(self):
        stepper = Meter(1, 1, [Table.both(0, 1)])
        self.assertEqual(Bent(stepper, "lost", 2).prices("99"), [0, 5, 9])
        self.assertEqual(Bent(stepper, "lost", 3).prices("99"), [0, 6, 12])
        self.assertEqual(Bent(stepper, "twice", 2).prices("35"), [0, 4, 12])

    def test_no_speed_above_9(self):
        stepper = Meter(1, 1, [Table.both(0, 1)])
        self.assertEqual(Bent(stepper, "twice", 2).prices("779"), [0, 9, 18, 27])
        self.assertEqual(Bent(stepper, "twice", 9).prices("9"), [0, 9])
        self.assertEqual(Bent(stepper, "twice", 4).prices("8"), [0, 9])

    def test_ticks_that_stand_still(self):
        timer = Meter(4, 4, [Table.both(2, 0)])
        self.assertEqual(Bent(timer, "idle", 2).prices("090909"), [0, 0, 0, 1, 1, 1, 1])
        self.assertEqual(Bent(timer, "lost", 2).prices("0000"), [0, 0, 1, 1, 2])

    def test_a_new_list_each_time(self):
        bent = Bent(cab_meter(), "lost", 2)
        bent.prices("55").append(7)
        self.assertEqual(bent.prices("55"), shown(bent, "55"))

    def test_wrong_values(self):
        meter = cab_meter()
        for value in no_strings() + ["", "Lost", "lost ", "lostlost", "0", "idle\n", ("lost",), ["lost"]]:
            check_given(self, BadFault, value, Bent, meter, value, 2)
            check_given(self, BadFault, value, Bent, meter, value, None)
        for value in no_numbers(2, 9):
            for fault in FAULTS:
                check_given(self, BadNumber, value, Bent, meter, fault, value)
        for value in no_strings() + list(NO_TRIPS):
            check_given(self, BadTrip, value, Bent(meter, "lost", 2).prices, value)
            check_given(self, BadTrip, value, Bent(meter, "idle", 2), value)
            check_given(self, BadTrip, value, faults_that_show, meter, [30], value)


class TellingTest(unittest.TestCase):
    def check_trip(self, one, other, top, trip, ticks):
        self.assertEqual(len(trip), ticks)
        self.assertTrue(all(digit <= str(top) for digit in trip))
        self.assertNotEqual(shown(one, trip)[-1], shown(other, trip)[-1])

    def test_compared_with_steps_along_pairs(self):
        nones = longs = 0
        for one, other, top in small_kinds():
            pairs = reached(one, other, top)
            parted = [ticks + 1 for ticks, parts in pairs.values() if parts]
            if shown(one, "") != shown(other, ""):
                parted.append(0)
            trip = telling_trip(one, other, top)
            hidden = hidden_pairs(one, other, top)
            with self.subTest(one=str(shown(one, "1" * 9)), other=str(shown(other, "1" * 9)), top=top):
                if not parted:
                    self.assertIsNone(trip)
                    self.assertEqual(hidden, sorted(pairs))
                    nones += 1
                else:
                    self.check_trip(one, other, top, trip, min(parted))
                    self.assertIsNone(hidden)
                    longs += min(parted) > 3
                self.assertEqual(telling_list([one, other], top)[0, 1] is None, trip is None)
        self.assertGreater(min(nones, longs), 15)

    def test_compared_with_all_trips(self):
        for one, other, top in small_kinds()[::2]:
            most = {0: 12, 1: 7, 2: 5, 3: 4, 9: 3}[top]
            least = min([len(trip) for ticks in range(most + 1) for trip in plain.all_trips(ticks, top)
                         if shown(one, trip)[-1] != shown(other, trip)[-1]], default=None)
            trip = telling_trip(one, other, top)
            if least is not None:
                self.check_trip(one, other, top, trip, least)
            else:
                self.assertTrue(trip is None or len(trip) > most)

    def test_unlike_flags(self):
        one, other = cab_meter(), Bent(Meter(10, 6, [Table.either(6, 2)], flag=31, each=10), "lost", 3)
        self.assertEqual([telling_trip(one, other), telling_trip(other, one, 0)], ["", ""])
        self.assertEqual([hidden_pairs(one, other), telling_list([one, other, one])],
                         [None, {(0, 1): "", (0, 2): None, (1, 2): ""}])

    def test_two_bent_meters_of_one_right_one(self):
        stepper = Meter(2, 2, [Table.both(0, 1)])
        one, other = Bent(stepper, "lost", 2), Bent(stepper, "lost", 3)
        self.assertEqual(len(telling_trip(one, other)), 1)
        self.check_trip(one, other, 1, telling_trip(one, other, 1), 2)
        self.assertEqual(hidden_pairs(one, Bent(stepper, "lost", 2), 1), sorted(reached(one, Bent(stepper, "lost", 2), 1)))

    def test_a_bent_meter_that_never_shows_otherwise(self):
        timer = Meter(4, 4, [Table.both(2, 0)])
        bent = Bent(timer, "lost", 3)
        self.assertEqual([telling_trip(timer, bent), telling_trip(bent, timer), telling_trip(bent, bent)], [None] * 3)
        self.assertEqual(hidden_pairs(timer, bent, 1), sorted(
            ((0, left), ((0, left), since)) for left in (2, 4) for since in (0, 1, 2)))
        self.assertEqual(hidden_pairs(bent, timer, 0), [(((0, 2), 0), (0, 2)), (((0, 4), 0), (0, 4))])
        self.assertEqual(hidden_pairs(bent, Bent(timer, "twice", 2), 0),
                         [(((0, 2), 0), ((0, 2), 0)), (((0, 4), 0), ((0, 4), 0))])

    def test_the_greatest_speed_left_out_is_9(self):
        meter = Meter(5, 5, [Table([1] * 9 + [2])])
        bent = Bent(meter, "lost", 9)
        # Only a tick with the speed 9 counts otherwise.
        self.assertIsNone(telling_trip(meter, bent, 8))
        self.assertIn("9", telling_trip(meter, bent))
        self.assertEqual([hidden_pairs(meter, bent), hidden_pairs(meter, bent, 8) is None], [None, False])
        self.assertEqual([telling_list([meter, bent], 8), telling_list([meter, bent])[0, 1] is None],
                         [{(0, 1): None}, False])

    def test_a_speed_that_is_raised_above_the_greatest_one(self):
        meter = Meter(5, 5, [Table([1] * 9 + [5])])
        bent = Bent(meter, "twice", 8)
        self.assertEqual(telling_trip(meter, bent, 8), "8")
        self.assertIsNone(telling_trip(meter, bent, 7))
        self.assertEqual(len(telling_trip(meter, Bent(meter, "twice", 2), 7)), 1)
        self.assertIsNone(telling_trip(meter, Bent(meter, "twice", 2), 5))

    def test_just_120_stands_and_more(self):
        just, fewer, more = many_stands()
        self.assertEqual([len(meter.stands()) for meter in (just, fewer, more)], [120, 119, 121])
        self.assertIsNone(telling_trip(just, just))
        self.assertIsNone(telling_trip(just, Bent(just, "lost", 9)))
        self.assertEqual(telling_list([just]), {})
        self.assertEqual(len(hidden_pairs(just, just)), 120)
        for meters in ((just, more), (more, just), (Bent(more, "lost", 2), just), (just, Bent(more, "idle", 2)), (more, more)):
            for call in (telling_trip, hidden_pairs):
                for top in (0, 9):
                    caught(self, TooMany, call, *meters, top)
            caught(self, TooMany, telling_list, list(meters))
        caught(self, TooMany, telling_list, [more])
        caught(self, TooMany, telling_list, [Bent(more, "twice", 5)])
        caught(self, TooMany, telling_list, [just, just, more], 0)
        # All speeds count for the stands, also those above the greatest speed.
        wide = Meter(60, 60, [Table([0] * 9 + [1]), Table([0] * 9 + [1]), Table([0] * 9 + [1])], [1, 2])
        self.assertEqual([len(wide.stands(0)), len(wide.stands())], [1, 180])
        caught(self, TooMany, telling_trip, wide, wide, 0)

    def test_lists(self):
        stepper = Meter(2, 2, [Table.both(0, 1)])
        timer = Meter(4, 4, [Table.both(2, 0)])
        meters = [stepper, Bent(stepper, "lost", 4), timer, Bent(timer, "lost", 3), Bent(timer, "idle", 3), stepper]
        self.assertEqual([telling_list([]), telling_list([stepper]), telling_list([], 0)], [{}, {}, {}])
        for top in (0, 1, 9):
            given = list(meters)
            found = telling_list(meters, top)
            self.assertEqual(meters, given)
            self.assertEqual(set(found), {(i, j) for j in range(6) for i in range(j)})
            for (i, j), trip in found.items():
                expected = telling_trip(meters[i], meters[j], top)
                self.assertEqual(trip is None, expected is None)
                if trip is not None:
                    self.check_trip(meters[i], meters[j], top, trip, len(expected))
        self.assertEqual([found[2, 3], found[0, 5]], [None, None])
        found.clear()
        self.assertEqual(len(telling_list(meters, 9)), 15)

    def test_meters_of_120_stands_end_soon(self):
        begin = time.perf_counter()
        for meter in (many_stands()[0], Meter(60, 60, [Table.both(1, 1), Table.both(2, 1)], [1]),
                      Meter(60, 60, [Table.either(3, 1), Table.both(0, 1)], [1])):
            bents = [Bent(meter, fault, number) for fault in FAULTS for number in (8, 9)]
            for top in (9, 1, 0):
                found = telling_list([meter] + bents, top)
                for (i, j), trip in found.items():
                    if trip is not None:
                        one, other = ([meter] + bents)[i], ([meter] + bents)[j]
                        self.check_trip(one, other, top, trip, len(trip))
                        self.assertEqual(shown(one, trip)[:-1], shown(other, trip)[:-1])
                self.assertEqual(hidden_pairs(bents[0], bents[1], top) is None, found[1, 2] is not None)
        self.assertLess(time.perf_counter() - begin, 30)

    def test_wrong_tops(self):
        more = many_stands()[2]
        for value in no_numbers(0, 9):
            for call in (telling_trip, hidden_pairs):
                check_given(self, BadTop, value, call, cab_meter(), Bent(cab_meter(), "lost", 2), value)
                # The greatest speed comes first.
                check_given(self, BadTop, value, call, more, more, value)
            check_given(self, BadTop, value, telling_list, [more], value)
            check_given(self, BadTop, value, telling_list, [], value)

    def test_returned_lists_are_new(self):
        meter = cab_meter()
        hidden_pairs(meter, meter).clear()
        self.assertEqual(len(hidden_pairs(meter, meter)), len(meter.stands()))


class FaultsTest(unittest.TestCase):
    def test_compared_with_all_bent_meters(self):
        some = random.Random(50)
        for meter in (cab_meter(), double_meter(), triple_meter(), Meter(2, 2, [Table.both(0, 1)])):
            for ticks in (0, 1, 2, 6, 15):
                trip = "".join(some.choices("0123456789", k=ticks))
                every = [(fault, number) for fault in FAULTS for number in range(2, 10)]
                for prices in ([shown(Bent(meter, *fault), trip) for fault in every]
                               + [shown(meter, trip), [], [0], shown(meter, trip) + [0], [HUGE] * (ticks + 1)]):
                    given = list(prices)
                    self.assertEqual(faults_that_show(meter, prices, trip), [
                        fault for fault in every if shown(Bent(meter, *fault), trip) == prices])
                    self.assertEqual(prices, given)

    def test_a_new_list_each_time(self):
        meter = cab_meter()
        faults_that_show(meter, [30], "").clear()
        self.assertEqual(len(faults_that_show(meter, [30], "")), 24)


if __name__ == "__main__":
    unittest.main()
