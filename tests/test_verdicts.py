"""Tests of cabmeters.verdicts: points [29] to [33], and points [3] and [4] for them."""

import copy
import random
import unittest

from cabmeters.errors import BadClaim, BadTick
from cabmeters.meters import Meter
from cabmeters.records import Record
from cabmeters.tables import Table
from cabmeters.verdicts import (
    is_paper, paper_of, sure_moves, sure_stops, trip_with, trip_without, verdict_on, way_range)
from tests import plain
from tests.samples import (
    HUGE, any_meter, any_record, cab_meter, check_given, double_meter, no_numbers, no_speed_strings, no_strings,
    plain_table, small_records, triple_meter)

CALLS = (verdict_on, trip_with, trip_without, paper_of)


def shown_record():
    """Return the record that the interface shows."""
    record = Record(cab_meter(), 2)
    record.showed(2, 50)
    record.passed(1, 3)
    return record


def claims(record, seed):
    """Return a list of claims about a record, of all kinds, some of which are at edges."""
    some = random.Random(seed)
    ticks = len(record)
    trip = "".join(some.choices(plain.DIGITS[:record.top + 1], k=ticks))
    ways = plain.ways(trip)
    prices = [plain.price(record.meter, count) for count in plain.counts(record.meter, trip)]
    found = [("way", tick, way) for tick in {0, ticks // 2, ticks} for way in {0, 1, ways[tick], ways[tick] + 1, HUGE}]
    found += [("price", tick, price) for tick in {0, (ticks + 1) // 2, ticks}
              for price in {0, prices[tick], prices[tick] + 1, record.meter.flag, HUGE}]
    for tick in {0, ticks // 2, ticks - 1} if ticks else ():
        found += [("speed", tick, speeds) for speeds in (trip[tick], "0", "9876543210", "31", "9")]
    return found


def plain_verdict(rows, claim):
    """Return the verdict by plain listing."""
    held = {plain.holds(claim, row) for row in rows}
    if len(held) == 2:
        return "sometimes"
    return {(True,): "always", (False,): "never", (): "none"}[tuple(held)]


class ClaimsTest(unittest.TestCase):
    def test_compared_with_all_trips(self):
        found = set()
        for seed, record in enumerate(small_records()):
            rows = plain.rows(record)
            for claim in claims(record, seed):
                with self.subTest(facts=record.facts(), meter=record.meter.text(), claim=claim):
                    expected = plain_verdict(rows, claim)
                    found.add((expected, claim[0]))
                    self.assertEqual(verdict_on(record, claim), expected)
                    for call, held in ((trip_with, True), (trip_without, False)):
                        able = [row[0] for row in rows if plain.holds(claim, row) == held]
                        trip = call(record, claim)
                        self.assertTrue(trip in able if able else trip is None)
                    self.check_paper(record, claim, expected)
        # All verdicts come for all kinds of claims.
        self.assertEqual(len(found), 12)

    def check_paper(self, record, claim, verdict):
        """Check that there is a paper just if it has to be there, and that it shows the claim."""
        paper = paper_of(record, claim)
        if verdict in ("always", "none"):
            self.assertIs(type(paper), list)
            self.assertEqual(len(paper), len(record) + 1)
            self.assertTrue(plain.shows(record, claim, paper))
            kept = copy.deepcopy(paper)
            self.assertIs(is_paper(record, claim, paper), True)
            self.assertEqual(paper, kept)
        else:
            self.assertIsNone(paper)

    def test_always_never_sometimes_none(self):
        record = shown_record()
        for claim, verdict in (
            (("way", 2, 8), "always"), (("way", 2, 9), "sometimes"), (("way", 2, 10), "sometimes"), (("way", 2, 11), "never"),
            (("way", 1, 3), "always"), (("way", 1, 4), "never"), (("way", 0, 0), "always"), (("way", 0, 1), "never"),
            (("price", 2, 50), "always"), (("price", 2, 51), "never"), (("price", 0, 0), "always"), (("price", 0, 31), "never"),
            (("price", 1, 30), "always"), (("price", 1, 40), "never"), (("way", 2, HUGE), "never"), (("price", 2, HUGE), "never"),
            (("speed", 1, "567"), "always"), (("speed", 1, "7650"), "always"), (("speed", 1, "7"), "sometimes"),
            (("speed", 1, "43210"), "never"), (("speed", 0, "3"), "always"), (("speed", 0, "0124"), "never"),
        ):
            self.assertEqual(verdict_on(record, claim), verdict)
        record.showed(1, 40)
        for claim in (("way", 2, 0), ("way", 2, HUGE), ("price", 0, 0), ("speed", 0, "3"), ("speed", 1, "0123456789")):
            self.assertEqual([verdict_on(record, claim), trip_with(record, claim), trip_without(record, claim)], ["none", None, None])
            self.assertTrue(is_paper(record, claim, paper_of(record, claim)))

    def test_no_tick_at_all(self):
        record = Record(cab_meter(), 0)
        for claim, verdict in ((("way", 0, 0), "always"), (("way", 0, 1), "never"), (("price", 0, 30), "always"), (("price", 0, 31), "never")):
            self.assertEqual(verdict_on(record, claim), verdict)
            self.assertEqual([trip_with(record, claim), trip_without(record, claim)], ["", None] if verdict == "always" else [None, ""])
            self.assertEqual(paper_of(record, claim), [[]] if verdict == "always" else None)
            self.assertIs(is_paper(record, claim, [[]]), verdict == "always")
            self.assertIs(is_paper(record, claim, []), False)
            self.assertIs(is_paper(record, claim, [[], []]), False)
            self.assertIs(is_paper(record, claim, [[(0, 0)]]), False)
        check_given(self, BadClaim, ("speed", 0, "5"), verdict_on, record, ("speed", 0, "5"))

    def test_wrong_claims(self):
        record = shown_record()
        before = record.facts(), record.how_many()
        wrong = no_strings() + ["", "way", "('way', 2, 8)", ["way", 2, 8], ("way",), ("way", 2), ("way", 2, 8, 0), (("way", 2, 8),)]
        wrong += [("Way", 2, 8), ("ways", 2, 8), ("", 2, 8), (None, 2, 8), (1, 2, 8), (["way"], 2, 8), (("way",), 2, 8), ({}, [], ())]
        wrong += [(2, "way", 8), ("passed", 2, 8), ("showed", 2, 50), ("speeds", 1, "5"), ("jumped", 1, True), {"way": 2, "price": 8, "speed": 1}]
        wrong += [("way", 2, "8"), ("price", 2, "50"), ("speed", 1, 5), ("speed", 2, "5"), ("speed", 2, "55"), (plain_table(), 2, 8)]
        wrong += [(kind, value, 8) for kind in ("way", "price") for value in no_numbers(0, 2)]
        wrong += [(kind, 2, value) for kind in ("way", "price") for value in no_numbers(0)]
        wrong += [("speed", value, "5") for value in no_numbers(0, 1)] + [("speed", 1, value) for value in no_speed_strings()]
        for value in wrong:
            for call in CALLS:
                check_given(self, BadClaim, value, call, record, value)
            check_given(self, BadClaim, value, is_paper, record, value, [[], [], []])
        self.assertEqual((record.facts(), record.how_many()), before)

    def test_claims_about_a_record_that_no_trip_fits_may_be_wrong_too(self):
        record = Record(cab_meter(), 2)
        record.passed(0, 1)
        for call in CALLS:
            check_given(self, BadClaim, ("way", 3, 0), call, record, ("way", 3, 0))

    def test_nothing_is_told_to_the_record(self):
        record = shown_record()
        for claim in (("way", 2, 9), ("price", 1, 40), ("speed", 1, "56")):
            for call in CALLS:
                call(record, claim)
        self.assertEqual([len(record.facts()), record[1], record.how_many()], [2, plain.DIGITS, 3])


class SureTest(unittest.TestCase):
    def test_compared_with_all_trips(self):
        for record in small_records():
            trips = plain.fitting(record)
            ticks = range(len(record)) if trips else ()
            self.assertEqual(sure_stops(record), [tick for tick in ticks if all(trip[tick] == "0" for trip in trips)])
            self.assertEqual(sure_moves(record), [tick for tick in ticks if all(trip[tick] != "0" for trip in trips)])

    def test_some_records(self):
        record = Record(cab_meter(), 5)
        self.assertEqual([sure_stops(record), sure_moves(record)], [[], []])
        record.passed(1, 7)
        record.passed(3, 7)
        record.passed(4, 8)
        self.assertEqual([sure_stops(record), sure_moves(record)], [[1, 2], [0, 3]])
        record.passed(4, 9)
        self.assertEqual([sure_stops(record), sure_moves(record)], [[], []])

    def test_no_tick_and_no_speed(self):
        self.assertEqual([sure_stops(Record(cab_meter(), 0)), sure_moves(Record(cab_meter(), 0))], [[], []])
        self.assertEqual([sure_stops(Record(cab_meter(), 3, 0)), sure_moves(Record(cab_meter(), 3, 0))], [[0, 1, 2], []])

    def test_returned_lists_are_new(self):
        record = Record(cab_meter(), 3, 0)
        sure_stops(record).clear()
        self.assertEqual(sure_stops(record), [0, 1, 2])


class RangeTest(unittest.TestCase):
    def test_compared_with_all_trips(self):
        for record in small_records():
            rows = [plain.ways(trip) for trip in plain.fitting(record)]
            for begin in range(len(record) + 1):
                for end in range(begin, len(record) + 1):
                    ways = [row[end] - row[begin] for row in rows]
                    expected = (min(ways), max(ways)) if ways else None
                    with self.subTest(facts=record.facts(), begin=begin, end=end):
                        self.assertEqual(way_range(record, begin, end), expected)

    def test_ways_known_at_several_ticks(self):
        for seed in range(40):
            some = random.Random(seed)
            record = Record(any_meter(seed, 6, 8), 5, 2)
            trip = "".join(some.choices("012", k=5))
            for tick in some.sample(range(6), 2):
                record.passed(tick, plain.ways(trip)[tick])
            record.showed(5, record.meter(trip))
            rows = [plain.ways(found) for found in plain.fitting(record)]
            for begin in range(6):
                for end in range(begin, 6):
                    ways = [row[end] - row[begin] for row in rows]
                    self.assertEqual(way_range(record, begin, end), (min(ways), max(ways)))

    def test_wrong_ticks(self):
        for record in (Record(cab_meter(), 0), shown_record(), Record(cab_meter(), 40)):
            for value in no_numbers(0, len(record)):
                for end in (len(record), None, HUGE):
                    check_given(self, BadTick, value, way_range, record, value, end)
            for begin in (0, len(record)):
                for value in no_numbers(begin, len(record)):
                    check_given(self, BadTick, value, way_range, record, begin, value)
        check_given(self, BadTick, 1, way_range, shown_record(), 2, 1)
        check_given(self, BadTick, 3, way_range, shown_record(), 3, 1)
        none = Record(cab_meter(), 2)
        none.passed(0, 1)
        check_given(self, BadTick, 3, way_range, none, 0, 3)

    def test_edges(self):
        record = shown_record()
        self.assertEqual([way_range(record, at, at) for at in range(3)], [(0, 0)] * 3)
        self.assertEqual([way_range(record, 0, 1), way_range(record, 0, 2)], [(3, 3), (8, 10)])
        self.assertEqual(way_range(Record(cab_meter(), 0), 0, 0), (0, 0))
        self.assertEqual(way_range(Record(cab_meter(), 40), 0, 40), (0, 360))
        self.assertEqual(way_range(Record(cab_meter(), 40, 3), 7, 30), (0, 69))

    def test_40_ticks(self):
        record = Record(triple_meter(), 40)
        record.passed(40, 180)
        self.assertEqual([way_range(record, 0, 40), way_range(record, 0, 10), way_range(record, 5, 25), way_range(record, 35, 40)],
                         [(180, 180), (0, 90), (0, 180), (0, 45)])
        self.assertEqual(way_range(record, 0, 30), (90, 180))
        record.passed(20, 170)
        self.assertEqual([way_range(record, 0, 20), way_range(record, 20, 40), way_range(record, 10, 30)], [(170, 170), (10, 10), (80, 100)])
        self.assertEqual(way_range(record, 19, 21), (0, 18))


class PaperTest(unittest.TestCase):
    def test_wrong_papers(self):
        record = shown_record()
        claim = ("way", 2, 8)
        paper = paper_of(record, claim)
        self.assertEqual([sorted(places) for places in paper], [[(0, 0)], [(6, 3)], []])
        wrong = [[], [[]], paper[:2], paper[1:], paper + [[]], [[]] + paper, paper[::-1], [[], [], []], [[(0, 0)], [], []], [[], [(6, 3)], []]]
        wrong += [[[(0, 0)], [(6, 3)], [(16, 8)]], [[(0, 0)], [(6, 3)], [(0, 0)]], [[(0, 1)], [(6, 3)], []], [[(0, 0)], [(6, 4)], []]]
        wrong += [[[(0, 0)], [(6, 2), (7, 3)], []], [[(0, 0)], [(3, 6)], []]]
        for other in wrong:
            kept = copy.deepcopy(other)
            self.assertIs(is_paper(record, claim, other), False)
            self.assertIs(plain.shows(record, claim, other), False)
            self.assertEqual(other, kept)

    def test_a_place_twice_and_any_order(self):
        record = Record(cab_meter(), 2, 4)
        claim = ("way", 2, 0)
        paper = paper_of(record, claim)
        self.assertTrue(is_paper(record, claim, [places[::-1] for places in paper]))
        self.assertTrue(is_paper(record, claim, [places + places for places in paper]))
        self.assertTrue(is_paper(record, claim, [places * 3 for places in paper]))

    def test_further_places(self):
        record = Record(Meter(10, 6, [Table([2] * 10)]), 2, 1)
        claim = ("way", 2, 0)
        self.assertEqual([sorted(places) for places in paper_of(record, claim)], [[(0, 0)], [(2, 0), (2, 1)], []])
        for place in ((0, 1), (5, 7), (HUGE, 3), (7, HUGE), (HUGE, HUGE), (10 * HUGE, 0), (239, 0), (240, 0), (241, 0)):
            count, way = place
            led = [(count + 2, way), (count + 2, way + 1)]
            listed = [[(0, 0), place], [(2, 0), (2, 1)] + led, []]
            self.assertTrue(is_paper(record, claim, listed))
            for at in (0, 1):
                fewer = [(2, 0), (2, 1)] + led[:at] + led[at + 1:]
                self.assertIs(is_paper(record, claim, [[(0, 0), place], fewer, []]), led[at] in fewer)
            self.assertTrue(is_paper(record, claim, [[(0, 0)], [(2, 0), (2, 1), place], []]))
            self.assertFalse(is_paper(record, claim, [[place], [(2, 0), (2, 1)] + led, []]))

    def test_further_places_at_which_something_does_not_hold(self):
        # Behind the second tick, the place has to have the way 1 (a fact) and not to have a price of at least 2.
        record = Record(Meter(4, 4, [Table([2] * 10)]), 2, 1)
        record.passed(2, 1)
        paper = [[(0, 0)], [(2, 0), (2, 1)], []]
        for claim, shows in ((("price", 2, 1), True), (("price", 2, 2), False), (("way", 2, 1), True), (("way", 2, 2), False)):
            self.assertIs(is_paper(record, claim, paper), shows)
            self.assertIs(plain.shows(record, claim, paper), shows)
        for place, shows in (((1, 0), False), ((1, 5), True), ((2, 1), True), ((1, 1), False), ((6, 0), True), ((HUGE, 1), True), ((0, 2), True)):
            self.assertIs(is_paper(record, ("price", 2, 1), [paper[0], paper[1] + [place], []]), shows)
            self.assertIs(plain.shows(record, ("price", 2, 1), [paper[0], paper[1] + [place], []]), shows)

    def test_listed_places_at_which_a_fact_does_not_hold_lead_on(self):
        record = Record(Meter(4, 4, [Table([2] * 10)]), 2, 1)
        record.passed(1, 0)
        record.passed(2, 0)
        claim = ("speed", 1, "0")
        self.assertEqual([sorted(places) for places in paper_of(record, claim)], [[(0, 0)], [(2, 0)], []])
        self.assertTrue(is_paper(record, claim, [[(0, 0)], [(2, 0), (2, 1)], []]))
        record = Record(Meter(4, 4, [Table([2] * 10)]), 2, 1)
        record.passed(1, 0)
        claim = ("way", 2, 0)
        self.assertTrue(is_paper(record, claim, [[(0, 0)], [(2, 0)], []]))
        claim = ("speed", 0, "0")
        self.assertEqual(paper_of(record, claim), [[(0, 0)], [], []])
        self.assertFalse(is_paper(record, claim, [[(0, 0)], [(2, 1)], []]))

    def test_places_beyond_all_trips_at_which_something_does_not_hold(self):
        record = Record(Meter(4, 4, [Table([2] * 10)], flag=5, each=3), 2, 1)
        paper = [[(0, 0)], [(2, 0), (2, 1), (4 * HUGE, 6)], []]
        price = 5 + 3 * HUGE
        self.assertEqual(record.meter.price_at(4 * HUGE + 2), price)
        for told, claim, shows in (
            ((), ("price", 2, price), False), ((2, 8), ("price", 2, price), False), ((2, 8), ("price", 2, 8), True),
            ((2, 8), ("price", 2, 9), False), ((2, 5), ("way", 2, 7), True), ((2, price), ("way", 2, 7), False),
            ((2, price), ("way", 2, 6), True), ((2, price), ("price", 2, price), True), ((2, price), ("price", 2, price + 1), False),
        ):
            with self.subTest(told=told, claim=claim):
                with record.trial():
                    if told:
                        record.showed(*told)
                    self.assertIs(plain.shows(record, claim, paper), shows)
                    self.assertIs(is_paper(record, claim, paper), shows)

    def test_facts_about_jumps_and_claims_about_speeds(self):
        record = Record(Meter(3, 3, [Table(list(range(10)))]), 2, 4)
        record.jumped(0, True)
        record.jumped(1, False)
        claim = ("speed", 0, "34")
        self.assertEqual([sorted(places) for places in paper_of(record, claim)], [[(0, 0)], [], []])
        self.assertEqual([sorted(places) for places in paper_of(record, ("way", 2, 3))], [[(0, 0)], [(3, 3), (4, 4)], []])
        self.assertTrue(is_paper(record, ("way", 2, 3), [[(0, 0)], [(3, 3), (4, 4)], []]))
        self.assertFalse(is_paper(record, ("way", 2, 4), [[(0, 0)], [(3, 3), (4, 4)], []]))
        # No speed keeps the price from these places on, whatever their ways are.
        record[1] = "34"
        self.assertTrue(is_paper(record, ("way", 2, HUGE), [[(0, 0), (HUGE, 7)][:1], [(3, 3), (4, 4), (6 + 3 * HUGE, 0)], []]))

    def test_a_claim_about_the_beginning(self):
        record = Record(cab_meter(), 2)
        for claim in (("way", 0, 0), ("price", 0, 30)):
            self.assertEqual(paper_of(record, claim), [[], [], []])
            self.assertTrue(is_paper(record, claim, [[], [], []]))
        for claim in (("way", 0, 1), ("price", 0, 31), ("way", 1, 0), ("speed", 0, "0123456789")):
            self.assertFalse(is_paper(record, claim, [[], [], []]))
        record.passed(0, 5)
        self.assertEqual(paper_of(record, ("way", 2, HUGE)), [[], [], []])
        self.assertTrue(is_paper(record, ("way", 2, HUGE), [[], [], []]))

    def test_changed_papers_compared_with_the_words_of_the_document(self):
        verdicts = {True: 0, False: 0}
        for seed in range(60):
            some = random.Random(seed)
            record = any_record(seed, some.choice((1, 2, 3)), some.choice((1, 2, 9)), worth=4, counts=5)
            for claim in claims(record, seed):
                paper = paper_of(record, claim) or [[(0, 0)]] + [[] for _ in range(len(record))]
                for _ in range(3):
                    self.change(some, paper)
                    kept = copy.deepcopy(paper)
                    shows = is_paper(record, claim, paper)
                    self.assertEqual(paper, kept)
                    with self.subTest(facts=record.facts(), claim=claim, paper=paper):
                        self.assertIs(shows, plain.shows(record, claim, paper))
                    verdicts[shows] += 1
        self.assertTrue(min(verdicts.values()) > 200)

    def change(self, some, paper):
        """Change a paper by one place."""
        places = some.choice(paper)
        if places and some.random() < 0.4:
            places.pop(some.randrange(len(places)))
        elif places and some.random() < 0.5:
            count, way = some.choice(places)
            places.append(some.choice(((count + 1, way), (count, way + 1), (count, way), (count + HUGE, way))))
        elif places is not paper[-1]:
            places.append((some.randrange(300), some.randrange(12)))

    def test_places_that_are_changed_a_little(self):
        record = shown_record()
        claim = ("way", 2, 8)
        for place in ((0,), (6, 3, 0), (), (-1, 0), (0, -1)):
            self.assertIs(is_paper(record, claim, [[(0, 0)], [(6, 3), place], []]), False)

    def test_returned_papers_are_new(self):
        record = shown_record()
        claim = ("way", 2, 8)
        paper = paper_of(record, claim)
        self.assertEqual(len({id(places) for places in paper}), 3)
        paper[1].clear()
        paper.clear()
        self.assertTrue(is_paper(record, claim, paper_of(record, claim)))

    def test_40_ticks(self):
        for record, claim in (
            (Record(cab_meter(), 40, 3), ("price", 40, 30)), (Record(cab_meter(), 40), ("way", 40, 0)),
            (Record(double_meter(), 40, 2), ("price", 39, 2)), (Record(triple_meter(), 40, 1), ("speed", 39, "0")),
        ):
            if claim[0] == "speed":
                record.passed(40, 5)
                record.passed(39, 5)
            with self.subTest(claim=claim):
                self.assertEqual(verdict_on(record, claim), "always")
                self.assertIsNone(trip_without(record, claim))
                self.assertTrue(record.fits(trip_with(record, claim)))
                paper = paper_of(record, claim)
                self.assertTrue(is_paper(record, claim, paper))
                # Each place in a paper of this program is needed.
                for tick in (0, 1, 17, 38):
                    at = len(paper[tick]) // 2
                    place = paper[tick].pop(at)
                    self.assertFalse(is_paper(record, claim, paper))
                    paper[tick].insert(at, place)
                if record.top < 4:
                    self.assertTrue(plain.shows(record, claim, [dict.fromkeys(places) if places else [] for places in paper]))

    def test_verdicts_on_40_ticks(self):
        record = Record(triple_meter(), 40)
        record.passed(40, 180)
        record.showed(40, record.prices(40)[-3])
        prices = record.prices(20)
        for claim in (("way", 20, 90), ("price", 20, prices[len(prices) // 2]), ("speed", 20, "123")):
            for call, held in ((trip_with, True), (trip_without, False)):
                trip = call(record, claim)
                self.assertTrue(record.fits(trip))
                self.assertIs(plain.holds(claim, (trip, plain.ways(trip), record.meter.prices(trip))), held)
            self.assertEqual(verdict_on(record, claim), "sometimes")
            self.assertIsNone(paper_of(record, claim))
        self.assertEqual([verdict_on(record, ("way", 40, 180)), verdict_on(record, ("way", 40, 181))], ["always", "never"])
        self.assertEqual([verdict_on(record, ("way", 20, 181)), verdict_on(record, ("price", 40, HUGE))], ["never", "never"])


if __name__ == "__main__":
    unittest.main()
