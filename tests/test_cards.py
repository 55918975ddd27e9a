"""Tests of cabmeters.cards: points [59] to [65], and points [3] and [4] for them."""

import random
import time
import unittest

from cabmeters.cards import Card, both_number, both_trip, shared_ways
from cabmeters.errors import (
    BadClaim, BadName, BadTick, BadTicks, BadTold, BadTop, MeterError, NoFact, NothingToUndo)
from cabmeters.meters import Meter
from cabmeters.records import Record
from cabmeters.tables import Table
from cabmeters.verdicts import verdict_on
from tests import plain
from tests.samples import (
    HUGE, any_fact, any_meter, any_record, cab_meter, caught, check_given, double_meter, no_numbers, no_speed_strings,
    no_strings, tell, triple_meter)

NO_NAMES = ["", "A", "Square", "a b", " a", "a\n", "abcdefghijklm", "a1", "_", "a-b", "a" * 2000, "0", "\u00e4", "aB"]


def shown_card():
    """Return the card that the interface shows, with the facts of two names."""
    card = Card(cab_meter(), 2)
    card.tell("receipt", ("showed", 2, 50))
    card.tell("square", ("passed", 1, 3))
    return card


def state(card):
    """Return all that a card tells of itself."""
    return card.names(), [card.fact_of(name) for name in card.names()], len(card), card.deeds(), card.record().facts()


def any_name(some):
    """Return one of a few names."""
    return some.choice(("a", "b", "square", "receipt", "abcdefghijkl", "z"))


def any_card(seed, ticks, top=9, worth=9, counts=12, most=4):
    """Return a card with any meter and some facts, always the same for a seed."""
    some = random.Random(seed)
    card = Card(any_meter(seed, worth, counts), ticks, top)
    trip = "".join(some.choices("0123456789"[:top + 1], k=ticks))
    for _ in range(some.randint(0, most)):
        card.tell(any_name(some), any_fact(some, card.record(), trip))
    return card


class FactsTest(unittest.TestCase):
    def test_telling_and_forgetting(self):
        card = Card(cab_meter(), 3, 5)
        self.assertEqual(state(card), ([], [], 0, 0, []))
        self.assertIsNone(card.tell("way", ("passed", 3, 9)))
        self.assertIsNone(card.tell("abcdefghijkl", ("speeds", 0, "9150")))
        self.assertIsNone(card.tell("b", ("jumped", 2, True)))
        self.assertEqual(card.names(), ["abcdefghijkl", "b", "way"])
        self.assertEqual([card.fact_of(name) for name in card.names()],
                         [("speeds", 0, "0159"), ("jumped", 2, True), ("passed", 3, 9)])
        self.assertIs(card.fact_of("b")[2], True)
        self.assertEqual(["b" in card, "c" in card, "" in card, len(card), card.deeds()], [True, False, False, 3, 3])
        self.assertIsNone(card.forget("b"))
        self.assertEqual(["b" in card, len(card), card.deeds(), card.names()], [False, 2, 4, ["abcdefghijkl", "way"]])
        caught(self, NoFact, card.forget, "b")
        card.tell("b", ("showed", 0, 30))
        self.assertEqual([card.fact_of("b"), card.deeds()], [("showed", 0, 30), 5])

    def test_a_name_told_anew(self):
        card = shown_card()
        for fact, stored in ((("speeds", 1, "31"), ("speeds", 1, "13")), (("jumped", 0, False), ("jumped", 0, False)),
                             (("passed", 0, 0), ("passed", 0, 0)), (("showed", 1, HUGE), ("showed", 1, HUGE))):
            card.tell("square", fact)
            self.assertEqual([card.fact_of("square"), len(card)], [stored, 2])
            self.assertEqual(card.record().facts(), [("showed", 2, 50), stored])
        self.assertEqual(card.record()[1], "0123456789")
        card.tell("square", ("speeds", 1, "31"))
        self.assertEqual(card.record()[1], "13")
        self.assertEqual(card.deeds(), 7)

    def test_records_of_facts_in_the_order_of_the_names(self):
        for seed in range(60):
            some = random.Random(seed)
            ticks, top = some.randint(0, 4), some.choice((2, 3))
            meter = any_meter(seed, 9, 12)
            card, known = Card(meter, ticks, top), {}
            trip = "".join(some.choices("0123456789"[:top + 1], k=ticks))
            for _ in range(some.randint(0, 9)):
                name = any_name(some)
                if name in known and some.random() < 0.4:
                    card.forget(name)
                    del known[name]
                else:
                    fact = any_fact(some, card.record(), trip)
                    card.tell(name, fact)
                    known[name] = fact
                self.assertEqual([card.names(), len(card)], [sorted(known), len(known)])
            record = card.record()
            self.assertIsInstance(record, Record)
            self.assertIs(record.meter, meter)
            self.assertEqual((len(record), record.top), (ticks, top))
            self.assertEqual(record.facts(), [known[name] for name in sorted(known)])
            expected = [made for made in plain.all_trips(ticks, top)
                        if all(plain.agrees(meter, fact, made) for fact in known.values())]
            self.assertEqual(list(record.trips()), expected)
            # Told in another order, and behind other facts, the same is known.
            other = Card(meter, ticks, top)
            for name in sorted(known, reverse=True):
                other.tell(name, ("passed", 0, 7))
                other.tell(name, known[name])
            other.tell("zz", ("passed", 0, 7))
            other.forget("zz")
            self.assertEqual(state(other)[:3] + state(other)[4:], state(card)[:3] + state(card)[4:])
            for claim in (("way", ticks, 3), ("price", 0, meter.flag), ("price", ticks, meter.flag + meter.each)):
                self.assertEqual([card.verdict(claim), card.decisive(claim)], [other.verdict(claim), other.decisive(claim)])

    def test_the_record_is_another_one(self):
        card = shown_card()
        before = state(card)
        record = card.record()
        record.passed(2, 9)
        record[0] = "5"
        self.assertIsNot(card.record(), record)
        self.assertEqual(state(card), before)

    def test_edges_of_ticks(self):
        card = Card(cab_meter(), 2)
        card.tell("a", ("passed", 2, 3))
        card.tell("b", ("showed", 2, 0))
        for fact in (("speeds", 2, "1"), ("jumped", 2, True), ("passed", 3, 3), ("showed", 3, 3)):
            check_given(self, BadTold, fact, card.tell, "c", fact)
        empty = Card(cab_meter(), 0)
        empty.tell("a", ("passed", 0, 0))
        self.assertEqual(empty.record().how_many(), 1)
        check_given(self, BadTold, ("speeds", 0, "1"), empty.tell, "a", ("speeds", 0, "1"))
        self.assertEqual([len(Card(cab_meter(), 40).record()), Card(cab_meter(), 1).record().top], [40, 9])

    def test_wrong_values(self):
        for value in no_numbers(0, 40):
            check_given(self, BadTicks, value, Card, cab_meter(), value)
            check_given(self, BadTicks, value, Card, cab_meter(), value, 10)
        for value in no_numbers(0, 9):
            check_given(self, BadTop, value, Card, cab_meter(), 2, value)
        card = shown_card()
        before = state(card)
        fact = ("passed", 1, 3)
        for value in no_strings() + NO_NAMES + [card, [card], "\u0131", "a\u0301"]:
            check_given(self, BadName, value, card.tell, value, fact)
            check_given(self, BadName, value, card.tell, value, None)
            check_given(self, NoFact, value, card.forget, value)
            check_given(self, NoFact, value, card.fact_of, value)
            self.assertIs(value in card, False)
        for value in ("squar", "squares", "receip", "a"):
            check_given(self, NoFact, value, card.forget, value)
            check_given(self, NoFact, value, card.fact_of, value)
        self.assertEqual(state(card), before)

    def test_wrong_facts(self):
        card = shown_card()
        before = state(card)
        wrong = [("speeds", 0), ("speeds", 0, "1", "2"), ["speeds", 0, "1"], ("speed", 0, "1"), ("way", 0, 1), ("", 0, 1),
                 ("passed", 0, -1), ("passed", 0, None), ("passed", 0, True), ("passed", True, 3), ("passed", -1, 3),
                 ("passed", "0", 3), ("showed", 0, "30"), ("showed", 0, -HUGE), ("showed", None, 30), ("showed", 0, [30]),
                 ("jumped", 0, 1), ("jumped", 0, 0), ("jumped", 0, None), ("jumped", 0, "True"), ("jumped", False, True),
                 ("jumped", -1, True), ("Passed", 0, 3), (None, 0, 3), (("passed",), 0, 3), (["passed"], 0, 3),
                 ("passed", (0,), 3), ("passed", [0], 3), ("speeds", [0], "1"), ("speeds", HUGE, "1"), ("passed", HUGE, 3),
                 "passed", ("passed",), [("passed", 0, 3)], (("passed", 0, 3),), {"passed": 3}, card, (card, 0, 3)]
        for value in wrong + no_strings() + ["", "passed 0 3"]:
            check_given(self, BadTold, value, card.tell, "square", value)
        for value in no_speed_strings():
            fact = ("speeds", 0, value)
            check_given(self, BadTold, fact, card.tell, "square", fact)
        self.assertEqual(state(card), before)

    def test_returned_lists_are_new(self):
        card = shown_card()
        card.names().append("x")
        card.decisive(("way", 2, 8)).clear()
        self.assertEqual([card.names(), card.decisive(("way", 2, 8))], [["receipt", "square"]] * 2)


class VerdictsTest(unittest.TestCase):
    def test_compared_with_all_trips(self):
        kinds = {}
        for seed in range(120):
            some = random.Random(seed)
            ticks, top = some.choice(((2, 9), (3, 4), (4, 2), (1, 9), (0, 3)))
            card = any_card(seed, ticks, top, most=6)
            meter = card.record().meter
            before = state(card)
            names = card.names()
            for claim in self.claims(some, card):
                def verdict(without):
                    record = Record(meter, ticks, top)
                    for name in names:
                        if name != without:
                            tell(record, card.fact_of(name))
                    told = {plain.holds(claim, row) for row in plain.rows(record)}
                    kinds_of = {(): "none", (True,): "always", (False,): "never", (False, True): "sometimes"}
                    return kinds_of[tuple(sorted(told))]
                with self.subTest(seed=seed, claim=claim):
                    self.assertEqual(card.verdict(claim), verdict(None))
                    decisive = [name for name in names if verdict(name) != verdict(None)]
                    self.assertEqual(card.decisive(claim), decisive)
                    kinds[card.verdict(claim), min(len(decisive), 2)] = True
            self.assertEqual(state(card), before)
        self.assertGreater(len(kinds), 7, kinds)

    def claims(self, some, card):
        """Return a list of claims about the record of a card."""
        record = card.record()
        ticks = len(record)
        found = [("way", some.randint(0, ticks), some.randint(0, 12)), ("price", ticks, record.meter.flag + record.meter.each)]
        if ticks:
            found.append(("speed", some.randrange(ticks), "".join(some.sample("0123456789", 5))))
        return found

    def test_facts_that_decide_only_together(self):
        card = shown_card()
        self.assertEqual([card.verdict(("way", 2, 8)), card.decisive(("way", 2, 8))], ["always", ["receipt", "square"]])
        card.tell("again", ("passed", 1, 3))
        # The fact is known twice, so that none of both alone decides.
        self.assertEqual(card.decisive(("way", 2, 8)), ["receipt"])
        self.assertEqual(Card(cab_meter(), 2).decisive(("way", 2, 8)), [])

    def test_40_ticks_end_soon(self):
        for meter in (cab_meter(), double_meter(), triple_meter()):
            begin = time.perf_counter()
            card = Card(meter, 40)
            card.tell("first", ("passed", 10, 50))
            card.tell("second", ("passed", 30, 140))
            card.tell("end", ("showed", 40, meter("5" * 40)))
            card.tell("stop", ("speeds", 20, "0"))
            self.assertEqual(card.verdict(("way", 30, 140)), "always")
            self.assertEqual(card.decisive(("way", 30, 140)), ["second"])
            self.assertEqual(card.decisive(("speed", 20, "0")), ["stop"])
            self.assertLess(time.perf_counter() - begin, 10)

    def test_wrong_claims(self):
        card = shown_card()
        before = state(card)
        for value in [("way", 3, 8), ("speed", 2, "1"), ("way", -1, 8), ("way", 1, -8), ("way", 1), ["way", 1, 8],
                      ("passed", 1, 8), ("speed", 1, ""), ("speed", 1, "11"), ("price", True, 3)] + no_strings():
            for call in (card.verdict, card.decisive):
                check_given(self, BadClaim, value, call, value)
            check_given(self, BadClaim, value, Card(cab_meter(), 2).decisive, value)
        self.assertEqual(state(card), before)


class DeedsTest(unittest.TestCase):
    def test_compared_with_a_list_of_states(self):
        for seed in range(40):
            some = random.Random(seed)
            card = Card(cab_meter(), 4)
            states = [{}]
            for _ in range(40):
                kind = some.random()
                name = any_name(some)
                if kind < 0.5:
                    fact = ("passed", some.randint(0, 4), some.randint(0, 30))
                    card.tell(name, fact)
                    states.append({**states[-1], name: fact})
                elif kind < 0.7 and name in states[-1]:
                    card.forget(name)
                    states.append({known: fact for known, fact in states[-1].items() if known != name})
                elif kind < 0.7:
                    check_given(self, NoFact, name, card.forget, name)
                elif kind < 0.75:
                    caught(self, BadTold, card.tell, name, ("passed", 5, 1))
                elif len(states) > 1:
                    self.assertIsNone(card.undo())
                    states.pop()
                else:
                    caught(self, NothingToUndo, card.undo)
                self.assertEqual({name: card.fact_of(name) for name in card.names()}, states[-1])
                self.assertEqual(card.deeds(), len(states) - 1)

    def test_the_same_fact_told_again_is_a_deed(self):
        card = shown_card()
        card.tell("square", ("passed", 1, 3))
        self.assertEqual(card.deeds(), 3)
        card.undo()
        self.assertEqual([card.deeds(), card.fact_of("square")], [2, ("passed", 1, 3)])

    def test_nothing_to_undo(self):
        card = Card(cab_meter(), 2)
        error = caught(self, NothingToUndo, card.undo)
        self.assertIsInstance(error, MeterError)
        card.tell("a", ("passed", 1, 3))
        card.undo()
        caught(self, NothingToUndo, card.undo)
        self.assertEqual(state(card), ([], [], 0, 0, []))

    def test_very_many_deeds(self):
        card = Card(cab_meter(), 2)
        for way in range(20000):
            card.tell("a", ("passed", 1, way))
        self.assertEqual([card.deeds(), card.fact_of("a")], [20000, ("passed", 1, 19999)])
        twin = card.twin()
        for _ in range(19999):
            card.undo()
        self.assertEqual([card.deeds(), card.fact_of("a"), twin.deeds()], [1, ("passed", 1, 0), 20000])
        del twin, card

    def test_twins(self):
        card = shown_card()
        twin = card.twin()
        self.assertIsInstance(twin, Card)
        self.assertIsNot(twin, card)
        self.assertEqual(state(twin), state(card))
        self.assertIs(twin.record().meter, card.record().meter)
        before = state(card)
        twin.forget("square")
        twin.tell("x", ("jumped", 0, True))
        twin.undo()
        twin.undo()
        twin.undo()
        self.assertEqual([twin.names(), twin.deeds(), state(card)], [["receipt"], 1, before])
        card.undo()
        card.undo()
        self.assertEqual([card.names(), twin.names()], [[], ["receipt"]])
        other = Card(double_meter(), 3, 4).twin()
        self.assertEqual([len(other.record()), other.record().top, other.deeds()], [3, 4, 0])
        caught(self, NothingToUndo, other.undo)


class TrialsTest(unittest.TestCase):
    def test_a_block(self):
        card = shown_card()
        before = state(card)
        with card.trial() as held:
            self.assertIs(held, card)
            held.tell("x", ("passed", 2, 9))
            card.forget("square")
            self.assertEqual([card.names(), card.deeds()], [["receipt", "x"], 4])
        self.assertEqual(state(card), before)

    def test_deeds_from_before_the_block_are_taken_back(self):
        card = shown_card()
        before = state(card)
        with card.trial():
            card.undo()
            card.undo()
            caught(self, NothingToUndo, card.undo)
            self.assertEqual([card.names(), card.deeds()], [[], 0])
            card.tell("x", ("passed", 2, 9))
            self.assertEqual(card.deeds(), 1)
        self.assertEqual(state(card), before)
        card.undo()
        self.assertEqual([card.names(), card.deeds()], [["receipt"], 1])

    def test_nested_blocks_and_errors(self):
        card = shown_card()
        before = state(card)
        with self.assertRaises(KeyError):
            with card.trial():
                card.forget("receipt")
                inner = state(card)
                with self.assertRaises(NoFact):
                    with card.trial() as held:
                        held.tell("x", ("passed", 2, 9))
                        held.undo()
                        held.undo()
                        held.forget("y")
                self.assertEqual(state(card), inner)
                with card.trial(), card.trial():
                    card.forget("square")
                self.assertEqual(state(card), inner)
                raise KeyError("x")
        self.assertEqual(state(card), before)

    def test_an_object_that_is_used_in_no_block(self):
        card = shown_card()
        unused = card.trial()
        card.tell("x", ("passed", 2, 9))
        before = state(card)
        card.trial()
        del unused
        self.assertEqual(state(card), before)

    def test_an_object_that_is_used_later(self):
        card = shown_card()
        trial = card.trial()
        card.tell("x", ("passed", 2, 9))
        before = state(card)
        with trial:
            card.undo()
            card.undo()
        # What was known when the block began counts, not what was known when the object was made.
        self.assertEqual(state(card), before)

    def test_twins_within_trials(self):
        card = shown_card()
        with card.trial():
            card.forget("square")
            twin = card.twin()
            with twin.trial():
                twin.tell("y", ("passed", 1, 1))
            twin.tell("x", ("passed", 2, 9))
        self.assertEqual([card.names(), card.deeds()], [["receipt", "square"], 2])
        self.assertEqual([twin.names(), twin.deeds()], [["receipt", "x"], 4])
        twin.undo()
        twin.undo()
        self.assertEqual(twin.names(), ["receipt", "square"])

    def test_tried(self):
        card = shown_card()
        before = state(card)
        self.assertEqual(card.tried(lambda held: [held is card, held.forget("receipt"), held.names()]), [True, None, ["square"]])
        self.assertEqual(state(card), before)
        self.assertIsNone(card.tried(lambda held: held.undo()))
        self.assertEqual(state(card), before)
        error = caught(self, NoFact, card.tried, lambda held: [held.undo(), held.forget("y")])
        self.assertEqual([error.given, state(card)], ["y", before])
        with self.assertRaises(ZeroDivisionError):
            card.tried(lambda held: [held.tell("x", ("passed", 2, 9)), 1 // 0])
        self.assertEqual(state(card), before)
        self.assertEqual(card.tried(lambda held: held.tried(lambda inner: [inner.undo(), inner.deeds()])), [None, 1])
        self.assertEqual(state(card), before)


class BothTest(unittest.TestCase):
    def check(self, one, other, trips):
        """Check all answers about two cards against the list of the trips that fit both."""
        states = state(one), state(other)
        self.assertEqual(both_number(one, other), len(trips))
        trip = both_trip(one, other)
        if trips:
            self.assertIn(trip, trips)
        else:
            self.assertIsNone(trip)
        for tick in range(len(one.record()) + 1):
            self.assertEqual(shared_ways(one, other, tick), sorted({plain.ways(trip)[tick] for trip in trips}))
        self.assertEqual((state(one), state(other)), states)

    def test_compared_with_all_trips(self):
        numbers = {}
        for seed in range(90):
            some = random.Random(seed)
            ticks, top = some.choice(((0, 9), (1, 9), (2, 9), (3, 4), (4, 2), (5, 2), (3, 9)))
            other_top = some.choice((top, top, 2, 9))
            one, other = any_card(seed, ticks, top, most=2), any_card(seed + 500, ticks, other_top, most=0)
            trip = "".join(some.choices("0123456789"[:min(top, other_top) + 1], k=ticks))
            for card in (one, other):
                for _ in range(some.randint(0, 2)):
                    card.tell(any_name(some), any_fact(some, card.record(), trip))
            fits = [set(plain.fitting(card.record())) for card in (one, other)]
            with self.subTest(seed=seed):
                self.check(one, other, sorted(fits[0] & fits[1]))
                self.check(other, one, sorted(fits[0] & fits[1]))
            numbers[min(len(fits[0] & fits[1]), 2)] = True
        self.assertEqual(len(numbers), 3)

    def test_one_card_twice(self):
        card = shown_card()
        self.check(card, card, ["35", "36", "37"])
        self.check(card, card.twin(), ["35", "36", "37"])

    def test_no_trip_fits_both(self):
        one, other = Card(cab_meter(), 2), Card(double_meter(), 2)
        one.tell("a", ("passed", 1, 3))
        other.tell("a", ("passed", 1, 4))
        self.check(one, other, [])
        one, other = Card(cab_meter(), 2), Card(double_meter(), 2)
        one.tell("a", ("speeds", 0, "135"))
        other.tell("a", ("speeds", 0, "024"))
        self.check(one, other, [])

    def test_20_ticks_compared_with_steps_from_place_to_place(self):
        for one_meter, other_meter in ((cab_meter(), Meter(10, 6, [Table.either(5, 2)])), (double_meter(), cab_meter()),
                                       (any_meter(5, 9, 9), any_meter(6, 9, 9))):
            one, other = Card(one_meter, 20, 2), Card(other_meter, 20)
            one.tell("a", ("passed", 8, 9))
            other.tell("b", ("jumped", 0, False))
            trip = "0121" * 5
            other.tell("c", ("showed", 20, other_meter(trip)))
            places = {(0, 0, 0): 1}
            for tick in range(20):
                behind = {}
                for (count, other_count, way), number in places.items():
                    for speed in range(3):
                        ahead = count + plain.worths_at(one_meter, count)[speed]
                        other_ahead = other_count + plain.worths_at(other_meter, other_count)[speed]
                        jumped = other_meter.price_at(other_ahead) > other_meter.price_at(other_count)
                        if not (tick == 0 and jumped) and not (tick == 7 and way + speed != 9):
                            place = (ahead, other_ahead, way + speed)
                            behind[place] = behind.get(place, 0) + number
                places = behind
            ended = {place: number for place, number in places.items()
                     if other_meter.price_at(place[1]) == other_meter(trip)}
            self.assertEqual(both_number(one, other), sum(ended.values()))
            self.assertEqual(shared_ways(one, other, 20), sorted({way for _, _, way in ended}))
            found = both_trip(one, other)
            if ended:
                self.assertTrue(one.record().fits(found) and other.record().fits(found))
            else:
                self.assertIsNone(found)

    def test_many_ticks_end_soon(self):
        for ticks, top in ((8, 9), (20, 3)):
            for one_meter, other_meter in ((cab_meter(), double_meter()), (triple_meter(), any_meter(3)), (any_meter(4), any_meter(3))):
                begin = time.perf_counter()
                one, other = Card(one_meter, ticks, top), Card(other_meter, ticks)
                self.assertEqual(both_number(one, other), (top + 1) ** ticks)
                self.assertEqual(shared_ways(one, other, ticks), list(range(top * ticks + 1)))
                one.tell("a", ("showed", ticks, one_meter("123" * 6 + "12" if ticks == 20 else "12345678")))
                other.tell("b", ("showed", ticks, other_meter("123" * 6 + "12" if ticks == 20 else "12345678")))
                other.tell("c", ("passed", ticks, 39 if ticks == 20 else 36))
                found = both_trip(one, other)
                self.assertTrue(one.record().fits(found) and other.record().fits(found))
                self.assertGreater(both_number(one, other), 0)
                self.assertLess(time.perf_counter() - begin, 20)

    def test_wrong_values(self):
        one, other = shown_card(), Card(double_meter(), 2)
        before = state(one)
        for value in no_numbers(0, 2):
            check_given(self, BadTick, value, shared_ways, one, other, value)
            # The numbers of ticks come first.
            check_given(self, BadTicks, 3, shared_ways, one, Card(cab_meter(), 3), value)
        for ticks in (0, 1, 3, 20):
            for call in (both_number, both_trip):
                check_given(self, BadTicks, ticks, call, one, Card(cab_meter(), ticks))
                check_given(self, BadTicks, 2, call, Card(cab_meter(), ticks), one)
        self.assertEqual(shared_ways(one, other, 2), [8, 9, 10])
        self.assertEqual(state(one), before)

    def test_returned_lists_are_new(self):
        one, other = shown_card(), Card(double_meter(), 2)
        shared_ways(one, other, 1).clear()
        self.assertEqual(shared_ways(one, other, 1), [3])


class TogetherTest(unittest.TestCase):
    def test_cards_and_records(self):
        for seed in range(30):
            record = any_record(seed, 3, 4)
            card = Card(record.meter, 3, 4)
            for place, fact in enumerate(record.facts()):
                card.tell("abcdefgh"[place], fact)
            self.assertEqual(card.record().facts(), record.facts())
            self.assertEqual(list(card.record().trips()), list(record.trips()))
            for claim in (("way", 2, 5), ("price", 3, 40), ("speed", 1, "02")):
                self.assertEqual(card.verdict(claim), verdict_on(record, claim))
            copied = Record(record.meter, 3, 4)
            for name in card.names():
                tell(copied, card.fact_of(name))
            self.assertEqual(copied.how_many(), both_number(card, card))


if __name__ == "__main__":
    unittest.main()
