"""Tests of cabmeters.records: points [23] to [28], and points [3] and [4] for records."""

import itertools
import random
import unittest

from cabmeters.errors import BadPrice, BadSpeeds, BadTick, BadTicks, BadTold, BadTop, BadTrip, BadWay, MeterError
from cabmeters.meters import Meter
from cabmeters.records import Record
from cabmeters.tables import Table
from tests import plain
from tests.samples import (
    HUGE, NO_TRIPS, any_meter, any_record, cab_meter, caught, check_given, double_meter, no_integers, no_numbers,
    no_speed_strings, no_strings, small_records, tell, triple_meter)

DIGITS = plain.DIGITS


def known(record):
    """Return all that tells what is known of a trip."""
    return record.facts(), [record[tick] for tick in range(len(record))], record.how_many()


def answers(record):
    """Return all answers about the trips that fit a record."""
    ticks = range(len(record))
    places = range(len(record) + 1)
    return [list(record.trips()), record.how_many(), [record.ways(tick) for tick in places],
            [record.prices(tick) for tick in places], [record.speeds(tick) for tick in ticks]]


def plain_answers(record):
    """Return what these answers have to be, by plain listing."""
    trips = plain.fitting(record)
    ways = [plain.ways(trip) for trip in trips]
    prices = [[plain.price(record.meter, count) for count in plain.counts(record.meter, trip)] for trip in trips]
    places = range(len(record) + 1)
    return [trips, len(trips), [sorted({row[tick] for row in ways}) for tick in places],
            [sorted({row[tick] for row in prices}) for tick in places],
            ["".join(sorted({trip[tick] for trip in trips})) for tick in range(len(record))]]


class RecordTest(unittest.TestCase):
    def test_properties(self):
        meter = cab_meter()
        for ticks in (0, 1, 2, 39, 40):
            for top in (0, 1, 8, 9):
                record = Record(meter, ticks, top)
                self.assertEqual([len(record), record.top, record.facts()], [ticks, top, []])
                self.assertIs(record.meter, meter)
                self.assertEqual([record[tick] for tick in range(ticks)], [DIGITS[:top + 1]] * ticks)
        self.assertEqual(Record(meter, 3).top, 9)

    def test_wrong_values(self):
        for value in no_numbers(0, 40):
            check_given(self, BadTicks, value, Record, cab_meter(), value)
            check_given(self, BadTicks, value, Record, cab_meter(), value, 10)
        for value in no_numbers(0, 9):
            check_given(self, BadTop, value, Record, cab_meter(), 2, value)
        check_given(self, BadTicks, None, Record, cab_meter(), None, None)

    def test_no_iteration(self):
        self.assertRaises(TypeError, list, Record(cab_meter(), 2))
        self.assertRaises(TypeError, list, Record(cab_meter(), 0))

    def test_nothing_is_known(self):
        for meter in (cab_meter(), double_meter(), triple_meter()):
            for ticks, top in ((0, 9), (0, 0), (1, 9), (3, 2), (2, 9), (3, 0)):
                record = Record(meter, ticks, top)
                self.assertEqual(list(record.trips()), plain.all_trips(ticks, top))
                self.assertEqual(answers(record), plain_answers(record))

    def test_a_list_of_the_caller_has_no_effect_later(self):
        tables = [Table([1] * 10), Table([5] * 10)]
        turns = [3]
        record = Record(Meter(2, 2, tables, turns), 6, 0)
        before = answers(record)
        tables.clear()
        turns[0] = 1
        record.passed(0, 0)
        self.assertEqual(answers(record), before)


class FactsTest(unittest.TestCase):
    def test_told_in_order(self):
        record = Record(cab_meter(), 3)
        record.showed(3, 50)
        record[1] = "75"
        record.passed(0, 0)
        record.only(1, "5")
        record.jumped(2, True)
        record.jumped(0, False)
        record.showed(3, 50)
        record[2] = "9876543210"
        told = [("showed", 3, 50), ("speeds", 1, "57"), ("passed", 0, 0), ("speeds", 1, "5"), ("jumped", 2, True),
                ("jumped", 0, False), ("showed", 3, 50), ("speeds", 2, "0123456789")]
        self.assertEqual(record.facts(), told)
        self.assertIs(record.facts()[4][2], True)
        self.assertIs(record.facts()[5][2], False)

    def test_nothing_is_returned(self):
        record = Record(cab_meter(), 2)
        self.assertEqual([record.only(0, "5"), record.passed(1, 5), record.showed(1, 40), record.jumped(0, True)], [None] * 4)

    def test_digits_that_are_left(self):
        record = Record(cab_meter(), 2, 6)
        self.assertEqual([record[0], record[1]], ["0123456"] * 2)
        record[0] = "97531"
        self.assertEqual([record[0], record[1]], ["135", "0123456"])
        record.only(0, "6543")
        self.assertEqual(record[0], "35")
        record.passed(1, 5)
        record.jumped(0, True)
        self.assertEqual([record[0], record.speeds(0)], ["35", "5"])
        record.only(0, "0")
        self.assertEqual([record[0], record[1], record.how_many(), record.speeds(0)], ["", "0123456", 0, ""])
        record[1] = "789"
        self.assertEqual(record[1], "")

    def test_a_fact_told_twice(self):
        for fact in (("speeds", 1, "357"), ("passed", 1, 3), ("showed", 2, 50), ("jumped", 1, True)):
            once, twice = Record(cab_meter(), 3), Record(cab_meter(), 3)
            tell(once, fact)
            tell(twice, fact)
            tell(twice, fact)
            self.assertEqual(twice.facts(), [fact, fact])
            self.assertEqual(answers(once), answers(twice))
            self.assertEqual(answers(once), plain_answers(once))

    def test_facts_that_cannot_be_true_together(self):
        for facts in (
            [("speeds", 1, "3"), ("speeds", 1, "5")], [("passed", 1, 3), ("passed", 1, 4)], [("showed", 2, 50), ("showed", 2, 60)],
            [("jumped", 1, True), ("jumped", 1, False)], [("passed", 0, 1)], [("showed", 0, 31)], [("showed", 0, 40)],
            [("passed", 2, 19)], [("passed", 2, HUGE)], [("showed", 2, HUGE)], [("showed", 1, 0)], [("jumped", 0, True), ("showed", 1, 30)],
            [("passed", 1, 9), ("passed", 2, 8)], [("speeds", 0, "12"), ("passed", 1, 3)],
        ):
            record = Record(cab_meter(), 2)
            for fact in facts:
                tell(record, fact)
            with self.subTest(facts=facts):
                self.assertEqual(record.facts(), facts)
                self.assertEqual(answers(record), [[], 0, [[]] * 3, [[]] * 3, [""] * 2])
                self.assertEqual(plain.fitting(record), [])

    def test_facts_about_the_beginning(self):
        record = Record(cab_meter(), 2)
        record.passed(0, 0)
        record.showed(0, 30)
        self.assertEqual(record.how_many(), 100)
        empty = Record(cab_meter(), 0)
        empty.passed(0, 0)
        empty.showed(0, 30)
        self.assertEqual(answers(empty), [[""], 1, [[0]], [[30]], []])
        empty.passed(0, 1)
        self.assertEqual(answers(empty), [[], 0, [[]], [[]], []])

    def test_wrong_ticks(self):
        for ticks in (0, 1, 3, 40):
            record = Record(cab_meter(), ticks)
            for value in no_numbers(0, ticks - 1):
                check_given(self, BadTick, value, lambda tick: record[tick], value)
                check_given(self, BadTick, value, record.only, value, "5")
                check_given(self, BadTick, value, record.only, value, "55")
                check_given(self, BadTick, value, record.jumped, value, True)
                check_given(self, BadTick, value, record.jumped, value, None)
                check_given(self, BadTick, value, record.speeds, value)
                check_given(self, BadTick, value, record.__setitem__, value, "5")
                check_given(self, BadTick, value, record.__setitem__, value, "")
            for value in no_numbers(0, ticks):
                check_given(self, BadTick, value, record.passed, value, 0)
                check_given(self, BadTick, value, record.passed, value, -1)
                check_given(self, BadTick, value, record.showed, value, 30)
                check_given(self, BadTick, value, record.showed, value, -1)
                check_given(self, BadTick, value, record.ways, value)
                check_given(self, BadTick, value, record.prices, value)
            self.assertEqual(known(record), ([], [DIGITS] * ticks, 10 ** ticks))

    def test_wrong_facts(self):
        record = Record(cab_meter(), 2, 6)
        record.passed(1, 3)
        record[1] = "2468"
        before = known(record)
        for value in no_speed_strings():
            check_given(self, BadSpeeds, value, record.only, 1, value)
            check_given(self, BadSpeeds, value, record.__setitem__, 1, value)
        for value in no_numbers(0):
            for tick in (0, 2):
                check_given(self, BadWay, value, record.passed, tick, value)
                check_given(self, BadPrice, value, record.showed, tick, value)
        for value in no_strings() + ["", "True", "0", "1"]:
            if value is not True and value is not False:
                check_given(self, BadTold, value, record.jumped, 1, value)
        self.assertEqual(known(record), before)
        self.assertEqual(answers(record), plain_answers(record))

    def test_told_by_item(self):
        record = Record(cab_meter(), 2)
        with self.assertRaises(BadTick) as held:
            record[2] = "5"
        self.assertEqual(held.exception.given, 2)
        with self.assertRaises(BadSpeeds) as held:
            record[1] = ["5"]
        self.assertEqual(held.exception.given, ["5"])

    def test_the_place_behind_all_ticks(self):
        record = Record(cab_meter(), 2)
        record.passed(2, 7)
        record.showed(2, 50)
        self.assertEqual([record.ways(2), record.prices(2)], [[7], [50]])
        self.assertEqual(answers(record), plain_answers(record))

    def test_returned_lists_are_new(self):
        record = Record(cab_meter(), 2)
        record.passed(1, 3)
        record.showed(2, 50)
        for call in (record.facts, lambda: record.ways(2), lambda: record.prices(2), lambda: record.ways(0)):
            returned = call()
            kept = list(returned)
            returned.clear()
            self.assertEqual(call(), kept)
            self.assertEqual(record.how_many(), 3)


class TripsThatFitTest(unittest.TestCase):
    def test_compared_with_all_trips(self):
        none = 0
        for record in small_records():
            with self.subTest(facts=record.facts(), meter=record.meter.text(), top=record.top):
                expected = plain_answers(record)
                self.assertEqual(answers(record), expected)
                none += expected[1] == 0
        # Some of these records are fitted by no trip, but not most of them.
        self.assertTrue(5 < none < 60)

    def test_answers_before_and_after_each_fact(self):
        for seed in range(20):
            done = any_record(seed, 3, 4, most=6)
            record = Record(done.meter, 3, 4)
            for fact in done.facts():
                tell(record, fact)
                self.assertEqual(answers(record), plain_answers(record))
            self.assertEqual(known(record), known(done))

    def test_fits_compared_with_all_trips(self):
        for record in small_records():
            fitting = dict.fromkeys(plain.fitting(record), True)
            for trip in plain.all_trips(len(record), min(9, record.top + 1)):
                self.assertIs(record.fits(trip), trip in fitting)

    def test_fits_other_lengths(self):
        for ticks in (0, 1, 3):
            record = Record(cab_meter(), ticks, 5)
            for other in (0, 1, 2, 3, 4, 2000):
                self.assertIs(record.fits("5" * other), other == ticks)
            self.assertIs(record.fits("6" * ticks), ticks == 0)

    def test_fits_no_trip(self):
        record = Record(cab_meter(), 2)
        record.only(0, "5")
        for value in no_strings() + list(NO_TRIPS):
            check_given(self, BadTrip, value, record.fits, value)
        self.assertEqual(known(record), ([("speeds", 0, "5")], ["5", DIGITS], 10))

    def test_several_jumps_in_one_tick(self):
        record = Record(Meter(3, 2, [Table(list(range(10)))]), 3)
        record.jumped(0, True)
        record.jumped(1, False)
        record.showed(3, 4)
        self.assertEqual(answers(record), plain_answers(record))

    def test_worths_of_zero(self):
        record = Record(Meter(1, 1, [Table([0] * 10), Table([5] * 10)], [1], flag=9), 3)
        self.assertEqual([record.how_many(), record.prices(3)], [1000, [9]])
        record.jumped(1, True)
        self.assertEqual(record.how_many(), 0)

    def test_a_table_that_changes_at_a_turn(self):
        record = Record(Meter(5, 5, [Table([1] * 10), Table([10] * 10), Table([0] * 10)], [1, 3]), 8, 1)
        self.assertEqual([record.prices(tick) for tick in range(9)], [[0], [0], [0], [0], [0], [1], [3], [3], [3]])
        record.jumped(6, True)
        self.assertEqual(record.how_many(), 0)

    def test_top_of_zero(self):
        record = Record(cab_meter(), 40, 0)
        self.assertEqual([list(record.trips()), record.ways(40), record.speeds(39)], [["0" * 40], [0], "0"])
        self.assertEqual(record.prices(40), [cab_meter()("0" * 40)])


class GeneratorTest(unittest.TestCase):
    def test_left_early(self):
        for ticks in (3, 40):
            record = Record(triple_meter(), ticks)
            found = []
            for trip in record.trips():
                found.append(trip)
                if len(found) == 12:
                    break
            self.assertEqual(found, [f"{number:0{ticks}d}" for number in range(12)])
            record.passed(ticks, 9 * ticks - 1)
            nines = "9" * (ticks - 1)
            self.assertEqual(sorted(record.trips()), sorted({nines[:at] + "8" + nines[at:] for at in range(ticks)}))
            self.assertEqual(record.how_many(), ticks)

    def test_one_after_another(self):
        record = Record(cab_meter(), 40)
        record.showed(40, 700)
        trips = record.trips()
        first, second = next(trips), next(trips)
        self.assertLess(first, second)
        self.assertTrue(record.fits(first) and record.fits(second))
        # Another loop over all trips begins anew.
        self.assertEqual(next(record.trips()), first)
        self.assertEqual(list(itertools.islice(trips, 3)), list(itertools.islice(record.trips(), 2, 5)))

    def test_no_trip(self):
        record = Record(cab_meter(), 2)
        record.passed(2, 19)
        self.assertEqual(list(record.trips()), [])

    def test_kept_trips_are_as_they_were(self):
        record = Record(cab_meter(), 2)
        trips = list(record.trips())
        record.only(0, "5")
        self.assertEqual(trips, plain.all_trips(2))


class TrialTest(unittest.TestCase):
    def setUp(self):
        self.record = Record(cab_meter(), 3, 6)
        self.record.passed(3, 9)
        self.record[1] = "345"

    def test_trial(self):
        before = known(self.record)
        with self.record.trial() as held:
            self.assertIs(held, self.record)
            self.assertEqual(known(held), before)
            held.only(0, "2")
            held.showed(3, 60)
            self.record.jumped(2, True)
            self.assertEqual(len(held.facts()), 5)
            self.assertEqual(answers(held), plain_answers(held))
        self.assertEqual(known(self.record), before)
        self.assertEqual(answers(self.record), plain_answers(self.record))

    def test_trial_without_answers_before(self):
        record = Record(cab_meter(), 2)
        with record.trial():
            record.passed(2, 19)
            self.assertEqual(record.how_many(), 0)
        self.assertEqual(record.how_many(), 100)

    def test_trials_within_trials(self):
        states = [known(self.record)]
        with self.record.trial() as one:
            one.only(0, "123")
            states.append(known(one))
            with one.trial() as other:
                other.only(0, "1")
                states.append(known(other))
                with other.trial() as last:
                    last.jumped(0, True)
                    last.passed(1, HUGE)
                self.assertEqual(known(self.record), states[2])
                other.showed(0, 31)
            self.assertEqual(known(self.record), states[1])
            with one.trial():
                one.only(2, "4")
            self.assertEqual(known(self.record), states[1])
        self.assertEqual(known(self.record), states[0])

    def test_error_in_a_trial(self):
        before = known(self.record)
        for error in (KeyError, MeterError, RuntimeError):
            with self.assertRaises(error):
                with self.record.trial() as held:
                    held.only(0, "2")
                    with held.trial() as inner:
                        inner.only(0, "3")
                        raise error()
            self.assertEqual(known(self.record), before)
        with self.assertRaises(BadTick):
            with self.record.trial() as held:
                held.passed(2, 4)
                held.passed(4, 4)
        self.assertEqual(known(self.record), before)

    def test_error_that_stays_in_a_trial(self):
        with self.record.trial() as held:
            held.only(0, "2")
            caught(self, BadSpeeds, held.only, 0, "22")
            self.assertEqual(held[0], "2")
        self.assertEqual(self.record[0], "0123456")

    def test_block_that_is_left_early(self):
        before = known(self.record)
        for _ in range(2):
            with self.record.trial() as held:
                held.only(0, "2")
                break
        self.assertEqual(known(self.record), before)

    def test_what_is_known_when_the_block_begins(self):
        trial = self.record.trial()
        self.record.only(0, "123")
        before = known(self.record)
        with trial as held:
            held.only(0, "1")
        self.assertEqual(known(self.record), before)

    def test_object_that_is_used_in_no_block(self):
        trial = self.record.trial()
        self.record.only(0, "123")
        with self.record.trial():
            self.record.trial()
            self.record.only(0, "2")
        self.assertEqual(self.record[0], "123")
        del trial
        self.assertEqual(self.record.facts()[-1], ("speeds", 0, "123"))

    def test_two_objects_for_blocks_one_within_the_other(self):
        one, other = self.record.trial(), self.record.trial()
        before = known(self.record)
        with other:
            self.record.only(0, "1")
            between = known(self.record)
            with one:
                self.record.only(0, "2")
            self.assertEqual(known(self.record), between)
        self.assertEqual(known(self.record), before)

    def test_a_trial_of_one_record_leaves_another_one(self):
        other = Record(cab_meter(), 3)
        with self.record.trial():
            other.passed(1, 2)
        self.assertEqual(other.facts(), [("passed", 1, 2)])

    def test_tried(self):
        before = known(self.record)
        result = [1]
        self.assertIs(self.record.tried(lambda held: result), result)
        self.assertIsNone(self.record.tried(lambda held: held.only(0, "2")))
        self.assertEqual(self.record.tried(lambda held: [held is self.record, held.only(0, "2"), held[0]]), [True, None, "2"])
        self.assertEqual(self.record.tried(lambda held: held.tried(lambda inner: [inner.only(0, "1"), inner[0]])), [None, "1"])
        self.assertEqual(known(self.record), before)

    def test_error_of_a_deed(self):
        before = known(self.record)

        def deed(held):
            held.only(0, "2")
            held.tried(lambda inner: inner.only(0, "1"))
            raise KeyError(held[0])
        with self.assertRaises(KeyError) as held:
            self.record.tried(deed)
        self.assertEqual(held.exception.args, ("2",))
        self.assertEqual(caught(self, BadWay, self.record.tried, lambda held: held.passed(1, None)).given, None)
        self.assertEqual(known(self.record), before)


class LongRecordsTest(unittest.TestCase):
    """Records that are too long for listing, compared with counting place by place."""

    def check(self, record):
        fronts, backs, speeds = plain.layers(record)
        with self.subTest(facts=record.facts(), meter=record.meter.text()):
            self.assertEqual(record.how_many(), sum(fronts[-1].values()))
            for tick in range(0, len(record) + 1, 3):
                self.assertEqual(record.ways(tick), sorted({way for _, way in backs[tick]}))
                self.assertEqual(record.prices(tick), sorted({record.meter.price_at(count) for count, _ in backs[tick]}))
            self.assertEqual([record.speeds(tick) for tick in range(len(record))], speeds)
            self.check_first_trips(record, backs)

    def check_first_trips(self, record, backs):
        trips = list(itertools.islice(record.trips(), 50))
        self.assertEqual(len(trips), min(50, record.how_many()))
        self.assertEqual(trips, sorted(trips))
        for trip in trips:
            self.assertTrue(record.fits(trip))
            self.assertTrue(all(place in backs[tick] for tick, place in enumerate(
                zip(plain.counts(record.meter, trip), plain.ways(trip)))))

    def test_40_ticks(self):
        some = random.Random(5)
        for meter, top in ((cab_meter(), 4), (double_meter(), 2), (triple_meter(), 1), (any_meter(6), 1)):
            record = Record(meter, 40, top)
            self.check(record)
            trip = "".join(some.choices(DIGITS[:top + 1], k=40))
            record.showed(40, meter(trip))
            self.check(record)
            record.passed(25, plain.ways(trip)[25])
            self.check(record)
            record[3] = "".join(sorted(set(trip[3] + "1")))
            record.jumped(31, meter.prices(trip)[32] > meter.prices(trip)[31])
            self.check(record)

    def test_15_ticks(self):
        for seed in range(12):
            self.check(any_record(seed, 15, 3, worth=60, counts=60, most=5))

    def test_nothing_is_known_of_40_ticks(self):
        for meter in (cab_meter(), double_meter(), triple_meter(), any_meter(7)):
            record = Record(meter, 40)
            self.assertEqual(record.how_many(), 10 ** 40)
            self.assertEqual([record.ways(40), record.speeds(17)], [list(range(361)), DIGITS])
            self.assertEqual(next(record.trips()), "0" * 40)

    def test_ways_of_40_ticks(self):
        numbers = {0: 1}
        for _ in range(40):
            behind = {}
            for way, many in numbers.items():
                for speed in range(10):
                    behind[way + speed] = behind.get(way + speed, 0) + many
            numbers = behind
        for seed, way in ((1, 180), (2, 0), (3, 360), (4, 17), (5, 300)):
            record = Record(any_meter(seed), 40)
            record.passed(40, way)
            self.assertEqual(record.how_many(), numbers[way])
            self.assertEqual(record.ways(40), [way])

    def test_prices_of_40_ticks_make_up_all_trips(self):
        meter = Meter(60, 60, list(triple_meter().tables), [2, 5])
        record = Record(meter, 40)
        numbers = [record.tried(lambda held: [held.showed(40, price), held.how_many()][1]) for price in record.prices(40)]
        self.assertEqual(sum(numbers), 10 ** 40)
        self.assertNotIn(0, numbers)

    def test_speeds_and_jumps_of_40_ticks(self):
        record = Record(any_meter(8), 40)
        record.only(0, "59")
        record.only(39, "0")
        self.assertEqual(record.how_many(), 2 * 10 ** 38)
        numbers = [record.tried(lambda held: [held.jumped(20, told), held.how_many()][1]) for told in (True, False)]
        self.assertEqual(sum(numbers), 2 * 10 ** 38)

    def test_numbers_of_30_digits(self):
        record = Record(cab_meter(), 40)
        for fact in (("passed", 40, HUGE), ("showed", 40, HUGE), ("showed", 20, 10 * HUGE)):
            self.assertEqual(record.tried(lambda held: [tell(held, fact), held.how_many(), list(held.trips())]), [None, 0, []])


class ValuesTest(unittest.TestCase):
    def test_true_and_false_are_no_integers(self):
        record = Record(cab_meter(), 2)
        for value in (True, False):
            check_given(self, BadTicks, value, Record, cab_meter(), value)
            check_given(self, BadTop, value, Record, cab_meter(), 2, value)
            check_given(self, BadTick, value, record.only, value, "5")
            check_given(self, BadWay, value, record.passed, 1, value)
            check_given(self, BadPrice, value, record.showed, 1, value)
        for value in (0, 1):
            check_given(self, BadTold, value, record.jumped, 1, value)
        self.assertEqual(record.facts(), [])

    def test_digits_in_other_kinds(self):
        record = Record(cab_meter(), 2)
        for value in (["5"], ("5", "6"), {"5"}, {"5": 1}, 5, b"5", [5]) + tuple(no_integers()[:3]):
            check_given(self, BadSpeeds, value, record.only, 0, value)


if __name__ == "__main__":
    unittest.main()
