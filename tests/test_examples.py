"""The examples that the interface shows, with the answers that it shows, file by file."""

import unittest

from cabmeters.against import (
    alike_pairs, excess_amounts, excess_ring, greatest_excess, is_alike_pairs, is_excess_amounts, never_dearer,
    parting_trip)
from cabmeters.bent import Bent, faults_that_show, hidden_pairs, telling_list, telling_trip
from cabmeters.cards import Card, both_number, both_trip, shared_ways
from cabmeters.clashes import (
    best_look, fewest_clash, greatest_worth, kept_facts, least_worth, look_numbers, needless_facts, record_of)
from cabmeters.errors import BadClaim, BadStand, BadTick
from cabmeters.hires import best_split, greatest_cost, greatest_saving, is_saving_amounts, saving_amounts, split_price
from cabmeters.longest import greatest_pace, is_pace_amounts, most_by_ticks, most_in, pace_amounts
from cabmeters.meters import Meter
from cabmeters.records import Record
from cabmeters.tables import Table, both_of, count_of, either_of
from cabmeters.town import Route, dearer_waits, is_waits_paper, waits_paper
from cabmeters.trips import as_text, fastest, from_text, is_speed, is_trip, stops, way_of, ways_of
from cabmeters.verdicts import is_paper, paper_of, sure_moves, sure_stops, trip_without, verdict_on, way_range
from cabmeters.ways import both_ways, either_ways, least_ticks, least_top, price_ways, way_prices, way_trip


class ExamplesTest(unittest.TestCase):
    def test_trips(self):
        self.assertEqual(
            [is_trip("0550"), is_trip("5a"), is_speed(7), is_speed("7"), way_of("0553"), ways_of("053"), fastest("053")],
            [True, False, True, False, 13, [0, 0, 5, 8], 5])
        self.assertEqual(
            [stops("0050"), as_text("55500"), from_text("2x0 12x3")],
            [[(0, 2), (3, 4)], '3x5 2x0', '00333333333333'])

    def test_tables(self):
        plain = Table.either(6, 2)
        self.assertEqual(
            [plain.worths, plain[4], count_of(plain, "0550"), either_of(plain), both_of(plain)],
            [[6, 6, 6, 6, 8, 10, 12, 14, 16, 18], 8, 32, (6, 2), None])
        self.assertEqual(
            [Table.both(3, 1).worths, Table.changing(5, 2, 4).text(), either_of(Table.read("7 7 7 7 7 7 7 7 7 7")),
             Table.both(2, 0).same(Table.either(2, 0))],
            [[3, 4, 5, 6, 7, 8, 9, 10, 11, 12], '5 5 5 5 8 10 12 14 16 18', (7, 0), True])

    def test_meters(self):
        plain = Table.either(6, 2)
        cab = Meter(10, 6, [plain], flag=30, each=10)
        double = Meter(4, 4, [Table.both(1, 1), Table.both(0, 3)], [2])
        self.assertEqual(
            [cab.counts("0550"), cab("0550"), cab.prices("0550"), cab.jumps("0550"), cab.price_at(9), cab.price_at(10)],
            [[0, 6, 16, 26, 32], 70, [30, 30, 50, 60, 70], [(1, 2), (2, 1), (3, 1)], 30, 40])
        self.assertEqual(
            [cab.start, cab.stand("05"), cab.after((0, 4), 5), double.counts("331"), double.stand("331")],
            [(0, 10), (0, 6), ((0, 6), 2), [0, 4, 8, 11], (2, 1)])
        self.assertEqual(
            [double.text(), Meter.read(double.text()).same(double), cab.same(double)],
            ['first 4 drop 4 flag 0 each 1\n1 2 3 4 5 6 7 8 9 10\nbehind 2\n0 3 6 9 12 15 18 21 24 27', True, False])
        with self.assertRaises(BadStand) as held:
            cab.after((0, 61), 5)
        self.assertEqual(held.exception.given, (0, 61))

    def test_ways(self):
        cab = Meter(10, 6, [Table.either(6, 2)], flag=30, each=10)
        self.assertEqual(
            [either_ways(6, 2, 4, 32), either_ways(6, 2, 4, 24), both_ways(3, 1, 4, 20), either_ways(6, 2, 2, 25)],
            [[(7, 16)], [(0, 12)], [(8, 8)], []])
        self.assertEqual(
            [price_ways(cab, 4, 70), cab(way_trip(cab, 4, 70, 13)), way_prices(cab, 4, 13), least_top(cab, 4, 70, 10),
             least_ticks(cab, 70, 30)],
            [[(5, 16)], 70, [60, 70, 80], 4, None])

    def test_records_and_verdicts(self):
        cab = Meter(10, 6, [Table.either(6, 2)], flag=30, each=10)
        open_record = Record(cab, 2)
        open_record.showed(2, 50)
        record = Record(cab, 2)
        record.showed(2, 50)
        record.passed(1, 3)
        self.assertEqual(
            [open_record.how_many(), open_record.ways(2), record.how_many(), list(record.trips()), record.prices(1),
             record.speeds(1)],
            [30, [5, 6, 7, 8, 9, 10], 3, ['35', '36', '37'], [30], '567'])
        self.assertEqual(
            [record.facts(), record[1], record.fits("44"),
             record.tried(lambda held: [held.jumped(0, True), held.how_many()])],
            [[('showed', 2, 50), ('passed', 1, 3)], '0123456789', False, [None, 0]])
        with self.assertRaises(BadTick) as held:
            record[2]
        self.assertEqual(held.exception.given, 2)
        self.assertEqual(
            [verdict_on(record, ("way", 2, 8)), verdict_on(record, ("speed", 1, "56")), verdict_on(record, ("price", 1, 40))],
            ['always', 'sometimes', 'never'])
        self.assertEqual(
            [trip_without(record, ("speed", 1, "56")), sure_moves(record), sure_stops(record), way_range(record, 1, 2)],
            ['37', [0, 1], [], (5, 7)])
        self.assertEqual(
            [is_paper(record, ("way", 2, 8), paper_of(record, ("way", 2, 8))), paper_of(record, ("speed", 1, "56"))],
            [True, None])
        with self.assertRaises(BadClaim) as held:
            verdict_on(record, ("way", 3, 8))
        self.assertEqual(held.exception.given, ('way', 3, 8))

    def test_clashes(self):
        fuller = Record(Meter(10, 6, [Table.either(6, 2)], flag=30, each=10), 2)
        fuller.showed(2, 50)
        fuller.passed(1, 3)
        fuller.jumped(0, False)
        self.assertEqual(
            [needless_facts(fuller), kept_facts(fuller), record_of(fuller, [1]).how_many(), fewest_clash(fuller)],
            [[2], [0, 1], 10, None])
        self.assertEqual(
            [best_look(fuller), look_numbers(fuller, ("price", 1)),
             least_worth(fuller, [[0] * 10, [9, 9, 9, 9, 9, 5, 2, 7, 9, 9]])],
            [(('speed', 1), 1), {30: 3}, (2, '36')])
        fuller.showed(1, 40)
        self.assertEqual([fewest_clash(fuller), greatest_worth(fuller, [[1] * 10, [1] * 10])], [[1, 3], None])

    def test_against(self):
        cab = Meter(10, 6, [Table.either(6, 2)], flag=30, each=10)
        slow = Meter(10, 6, [Table.either(5, 2)], flag=30, each=10)
        self.assertEqual(
            [len(parting_trip(cab, slow)), len(parting_trip(cab, slow, 3)), alike_pairs(cab, slow),
             is_alike_pairs(cab, cab, alike_pairs(cab, cab))],
            [2, 3, None, True])
        self.assertEqual(
            [never_dearer(slow, cab), never_dearer(cab, slow), greatest_excess(slow, cab)[0], greatest_excess(cab, slow),
             excess_ring(slow, cab)],
            [True, False, 0, None, None])
        front, ring = excess_ring(cab, slow)
        self.assertEqual(
            [cab(front + ring) - slow(front + ring) > cab(front) - slow(front),
             is_excess_amounts(slow, cab, excess_amounts(slow, cab), 0)],
            [True, True])

    def test_hires(self):
        cab = Meter(10, 6, [Table.either(6, 2)], flag=30, each=10)
        dear = Meter(6, 6, [Table.both(1, 0), Table.both(3, 0)], [2])
        self.assertEqual(
            [split_price(dear, "0" * 12, []), split_price(dear, "0" * 12, [5]), best_split(dear, "0" * 16)[0],
             best_split(dear, "0" * 16, 2)[0], dear("0" * 16)],
            [2, 1, 0, 1, 4])
        self.assertEqual([greatest_saving(dear)[0], greatest_cost(cab)[0], greatest_saving(cab)[0]], [5, 30, -10])
        self.assertEqual(
            [is_saving_amounts(cab, saving_amounts(cab), -10), is_saving_amounts(cab, saving_amounts(cab), -20)],
            [True, False])

    def test_bent(self):
        timer = Meter(4, 4, [Table.both(2, 0)])
        stepper = Meter(2, 2, [Table.both(0, 1)])
        late, slip = Bent(timer, "idle", 3), Bent(stepper, "lost", 4)
        self.assertEqual(
            [late.prices("00000"), slip.prices("1111"), Bent(stepper, "twice", 2)("5"), slip.number],
            [[0, 0, 1, 1, 1, 2], [0, 0, 1, 1, 1], 3, 4])
        self.assertEqual(
            [len(telling_trip(timer, late)), telling_trip(stepper, slip, 1), telling_trip(timer, Bent(timer, "lost", 2))],
            [4, '1111', None])
        self.assertEqual(
            [hidden_pairs(timer, Bent(timer, "lost", 2), 1) is None, telling_list([stepper, slip], 1),
             faults_that_show(stepper, [0, 0, 1, 1, 1], "1111")],
            [False, {(0, 1): '1111'}, [('lost', 3), ('lost', 4), ('idle', 3), ('idle', 4)]])

    def test_town(self):
        cab = Meter(10, 6, [Table.either(6, 2)], flag=30, each=10)
        along = Route([("road", 6, 3), ("light", 2), ("road", 3, 3)])
        around = Route([("road", 10, 5), ("light", 2), ("road", 5, 5)])
        self.assertEqual(
            [along.steps, along.lights, along.has("3303"), along.has("3333"), along.has("33000003")],
            [9, [2], True, False, False])
        self.assertEqual(
            [along.prices(cab), len(along.trip_for(cab, 70)), along.trip_for(cab, 1000), around.prices(cab)[0]],
            [[50, 60, 70, 80, 90, 100, 110, 120, 130], 5, None, 70])
        self.assertEqual(
            [dearer_waits(along, along, cab) is None, is_waits_paper(along, around, cab, [[(0, 0)], []]),
             waits_paper(along, along, cab)],
            [False, False, None])

    def test_longest(self):
        cab = Meter(10, 6, [Table.either(6, 2)], flag=30, each=10)
        timer = Meter(4, 4, [Table.both(2, 0)])
        stepper = Meter(2, 2, [Table.both(0, 1)])
        self.assertEqual(
            [most_by_ticks(timer, 4), most_by_ticks(stepper, 3, 1), most_in(cab, 1)[0], greatest_pace(timer)[0],
             greatest_pace(cab)[0]],
            [[0, 1, 1, 2, 2], [0, 1, 1, 2], 30, (1, 2), (30, 1)])
        amounts = pace_amounts(stepper, 3)
        self.assertEqual(
            [is_pace_amounts(stepper, (3, 2), amounts, 3), is_pace_amounts(stepper, (1, 1), amounts, 3),
             greatest_pace(stepper, 3)[0]],
            [True, False, (3, 2)])

    def test_cards(self):
        cab = Meter(10, 6, [Table.either(6, 2)], flag=30, each=10)
        slow = Meter(10, 6, [Table.either(5, 2)], flag=30, each=10)
        card = Card(cab, 2)
        card.tell("receipt", ("showed", 2, 50))
        card.tell("square", ("passed", 1, 3))
        self.assertEqual(
            [card.names(), card.fact_of("square"), card.verdict(("way", 2, 8)), card.decisive(("way", 2, 8)),
             card.record().how_many(), card.deeds()],
            [['receipt', 'square'], ('passed', 1, 3), 'always', ['receipt', 'square'], 3, 2])
        card.tell("square", ("passed", 1, 5))
        self.assertEqual(
            [card.verdict(("way", 2, 8)), card.tried(lambda held: [held.forget("receipt"), held.record().how_many()])],
            ['sometimes', [None, 10]])
        card.undo()
        self.assertEqual([card.fact_of("square"), card.deeds()], [('passed', 1, 3), 2])
        second = Card(slow, 2)
        second.tell("receipt", ("showed", 2, 50))
        second.tell("end", ("passed", 2, 9))
        self.assertEqual(
            [both_number(card, second), both_trip(card, second), shared_ways(card, second, 2)],
            [1, '36', [9]])


if __name__ == "__main__":
    unittest.main()
