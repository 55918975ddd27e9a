"""Tests of cabmeters.meters: points [12] to [17], and points [3] and [4] for meters."""

import itertools
import random
import unittest

from cabmeters.errors import BadNumber, BadSpeed, BadStand, BadTables, BadText, BadTop, BadTrip, BadTurns
from cabmeters.meters import Meter
from cabmeters.tables import Table
from tests import plain
from tests.samples import (
    HUGE, NO_TRIPS, any_meter, cab_meter, caught, check_given, double_meter, no_integers, no_numbers, no_strings,
    plain_table, triple_meter)

TABLES = [Table([speed + 10 * at for speed in range(10)]) for at in range(3)]
LIMITS = {"first": (1, 60), "drop": (1, 60), "flag": (0, 1000), "each": (1, 100)}


def made(**numbers):
    """Return a meter whose numbers are these, and 1 if they are left out."""
    numbers = {"first": 1, "drop": 1, "tables": [plain_table()], "turns": (), **numbers}
    first, drop, tables, turns = [numbers.pop(name) for name in ("first", "drop", "tables", "turns")]
    return Meter(first, drop, tables, turns, **numbers)


def meters():
    """Return a list of meters of all kinds."""
    return [cab_meter(), double_meter(), triple_meter()] + [any_meter(seed) for seed in range(20)]


def wrong_tables():
    """Return a list of values of which none is a list of one to three tables."""
    table = plain_table()
    wrong = [value for value in no_strings() if not (isinstance(value, list) and len(value) == 1 and
                                                     isinstance(value[0], Table))]
    wrong += ["", "5", (table,), (table, table), {table: table}, [table] * 4, [table] * 5, [table, None], [None, table]]
    return wrong + [[[table]], [table, [table]], [table.worths], [table.text()], [table, (table,)], [table, cab_meter()]]


def wrong_turns():
    """Return a list of values of which none is one turn, or are two, as one would have to be."""
    wrong = [value for value in no_strings() if value not in ([5], (5,))]
    wrong += ["5", "", [], (), [5, 6], (5, 6), [5, 5], {5}, {5: 5}, range(5, 6), [[5]], [(5,)], ((5,),), [5, None]]
    return wrong + [kind([value]) for kind in (list, tuple) for value in no_numbers(1, 9)]


class MeterTest(unittest.TestCase):
    def test_properties(self):
        meter = Meter(8, 4, TABLES, [2, 9], flag=30, each=10)
        self.assertEqual([meter.first, meter.drop, meter.turns, meter.flag, meter.each], [8, 4, (2, 9), 30, 10])
        self.assertIs(type(meter.tables), tuple)
        self.assertIs(type(meter.turns), tuple)
        self.assertEqual(len(meter.tables), 3)
        for at in range(3):
            self.assertIs(meter.tables[at], TABLES[at])

    def test_what_is_left_out(self):
        meter = Meter(8, 4, [plain_table()])
        self.assertEqual([meter.turns, meter.flag, meter.each], [(), 0, 1])
        self.assertEqual(Meter(8, 4, [plain_table()], []).turns, ())

    def test_flag_and_each_are_passed_by_name(self):
        self.assertRaises(TypeError, Meter, 8, 4, [plain_table()], (), 30)

    def test_edges_of_numbers(self):
        for name, (least, most) in LIMITS.items():
            for number in (least, least + 1, most - 1, most):
                self.assertEqual(getattr(made(**{name: number}), name), number)

    def test_wrong_numbers(self):
        for name, (least, most) in LIMITS.items():
            for value in no_numbers(least, most):
                with self.subTest(name=name, value=value):
                    self.assertIs(caught(self, BadNumber, lambda: made(**{name: value})).given, value)

    def test_wrong_tables(self):
        for value in wrong_tables():
            check_given(self, BadTables, value, Meter, 8, 4, value)
            check_given(self, BadTables, value, Meter, 8, 4, value, [5])

    def test_edges_of_turns(self):
        for many in (1, 2, 3):
            for turns in itertools.combinations(range(1, 10), many - 1):
                self.assertEqual(Meter(8, 4, TABLES[:many], turns).turns, turns)
                self.assertEqual(Meter(8, 4, TABLES[:many], list(turns)).turns, turns)

    def test_wrong_turns(self):
        for value in wrong_turns():
            check_given(self, BadTurns, value, Meter, 8, 4, TABLES[:2], value)
        for turns in ([5], (5,), [None], None, "", {}, 0, False, {5: 6}, [[]], [()]):
            check_given(self, BadTurns, turns, Meter, 8, 4, TABLES[:1], turns)
        for turns in ((), (5,), (5, 5), (6, 5), (9, 1), (0, 1), (9, 10), (1, 2, 3), (1, True), (False, 1), (1, "2")):
            check_given(self, BadTurns, turns, Meter, 8, 4, TABLES, turns)
            turns = list(turns)
            check_given(self, BadTurns, turns, Meter, 8, 4, TABLES, turns)

    def test_the_error_that_is_listed_first(self):
        wrong = {"first": [61], "drop": [0], "tables": [plain_table(), None], "turns": [3, 2], "flag": -1, "each": 101}
        errors = {"tables": BadTables, "turns": BadTurns}
        names = list(wrong)
        for many in range(1, 7):
            for chosen in itertools.combinations(names, many):
                with self.subTest(chosen=chosen):
                    error = caught(self, errors.get(chosen[0], BadNumber), lambda: made(**{at: wrong[at] for at in chosen}))
                    self.assertIs(error.given, wrong[chosen[0]])

    def test_arguments_are_copied_and_not_modified(self):
        tables = TABLES[:2]
        turns = [3]
        meter = Meter(8, 4, tables, turns)
        text = meter.text()
        self.assertEqual([len(tables), turns], [2, [3]])
        tables[0] = plain_table()
        tables.append(plain_table())
        turns[0] = 9
        turns.clear()
        self.assertEqual(meter.text(), text)
        self.assertIs(meter.tables[0], TABLES[0])
        self.assertEqual([len(meter.tables), meter.turns], [2, (3,)])
        self.assertEqual(meter.counts("0123"), plain.counts(Meter(8, 4, TABLES[:2], (3,)), "0123"))

    def test_wrong_arguments_are_not_modified(self):
        tables = [plain_table(), None]
        self.assertRaises(BadTables, Meter, 8, 4, tables)
        self.assertEqual(len(tables), 2)
        turns = [3, 2]
        self.assertRaises(BadTurns, Meter, 8, 4, TABLES, turns)
        self.assertEqual(turns, [3, 2])

    def test_same(self):
        def meter(first=8, drop=4, tables=TABLES, turns=(2, 5), flag=30, each=10):
            return Meter(first, drop, [Table(table.worths) for table in tables], turns, flag=flag, each=each)
        self.assertIs(meter().same(meter(turns=[2, 5])), True)
        others = [meter(first=4), meter(drop=8), meter(flag=10), meter(each=30), meter(turns=(2, 6)), meter(turns=(1, 5))]
        others += [meter(tables=TABLES[:2], turns=(2,)), meter(tables=TABLES[:1], turns=())]
        others += [meter(tables=[TABLES[at] for at in order]) for order in ((1, 0, 2), (0, 2, 1), (0, 0, 2), (0, 1, 1))]
        others += [meter(first=4, drop=8), meter(flag=10, each=30)]
        for other in others:
            self.assertIs(meter().same(other), False)
            self.assertIs(other.same(meter()), False)
            self.assertIs(other.same(other), True)


class CountsTest(unittest.TestCase):
    def test_compared_with_plain_counting(self):
        some = random.Random(1)
        for meter in meters():
            for trip in plain.all_trips(0) + plain.all_trips(1) + ["".join(some.choices(plain.DIGITS, k=30)) for _ in range(5)]:
                with self.subTest(meter=meter.text(), trip=trip):
                    counts = plain.counts(meter, trip)
                    prices = [plain.price(meter, count) for count in counts]
                    self.assertEqual(meter.counts(trip), counts)
                    self.assertEqual(meter.count(trip), counts[-1])
                    self.assertEqual(meter.prices(trip), prices)
                    self.assertEqual(meter(trip), prices[-1])
                    jumps = [plain.jumps_at(meter, count) for count in counts]
                    self.assertEqual(meter.jumps(trip), [
                        (tick, jumps[tick + 1] - jumps[tick]) for tick in range(len(trip)) if jumps[tick + 1] > jumps[tick]])

    def test_empty_trip(self):
        for meter in meters():
            self.assertEqual([meter.count(""), meter.counts(""), meter.prices(""), meter.jumps("")], [0, [0], [meter.flag], []])
            self.assertEqual(meter(""), meter.flag)

    def test_longest_trip(self):
        meter = Meter(1, 1, [Table([60] * 10)], flag=1000, each=100)
        self.assertEqual(meter.count("9" * 2000), 120000)
        self.assertEqual(meter("0" * 2000), 1000 + 100 * 120000)
        self.assertEqual(meter.jumps("5" * 2000), [(tick, 60) for tick in range(2000)])

    def test_edges_of_jumps(self):
        meter = Meter(3, 2, [Table(list(range(10)))])
        self.assertEqual([meter.price_at(count) for count in range(8)], [0, 0, 0, 1, 1, 2, 2, 3])
        self.assertEqual([meter.jumps("2"), meter.jumps("3"), meter.jumps("4"), meter.jumps("5")], [[], [(0, 1)], [(0, 1)], [(0, 2)]])
        self.assertEqual(meter.jumps("21110"), [(1, 1), (3, 1)])

    def test_worths_of_zero(self):
        meter = Meter(1, 1, [Table([0] * 10)], flag=7)
        self.assertEqual([meter.counts("059"), meter.prices("059"), meter.jumps("059")], [[0] * 4, [7] * 4, []])
        stopped = Meter(2, 2, [Table([2] * 10), Table([0] * 10)], [3])
        self.assertEqual(stopped.counts("000000"), [0, 2, 4, 6, 6, 6, 6])
        self.assertEqual(stopped.jumps("000000"), [(0, 1), (1, 1), (2, 1)])

    def test_the_table_holds_that_holds_at_the_beginning_of_a_tick(self):
        meter = Meter(5, 5, [Table([1] * 10), Table([10] * 10), Table([0] * 9 + [60])], [1, 3])
        self.assertEqual(meter.counts("00000" + "000" + "09"), [0, 1, 2, 3, 4, 5, 15, 15, 15, 15, 75])
        over = Meter(5, 5, [Table([20] * 10), Table([10] * 10), Table([7] * 10)], [1, 3])
        self.assertEqual(over.counts("00"), [0, 20, 27])

    def test_price_at(self):
        for meter in meters():
            for count in list(range(150)) + [1000, 5000]:
                self.assertEqual(meter.price_at(count), plain.price(meter, count))
            self.assertEqual(meter.price_at(HUGE), meter.flag + meter.each * (1 + (HUGE - meter.first) // meter.drop))

    def test_counts_of_prices(self):
        for meter in meters():
            prices = [plain.price(meter, count) for count in range(400)]
            for price in range(prices[0] - 1, prices[100] + 2):
                counts = [count for count, at in enumerate(prices) if at == price]
                self.assertEqual(meter.span_of(price), (counts[0], counts[-1]) if counts else None)
                self.assertEqual(meter.count_for(price), min(count for count, at in enumerate(prices) if at >= price))
            least, greatest = meter.span_of(meter.flag + meter.each * HUGE)
            self.assertEqual([meter.price_at(count) - meter.flag for count in (least - 1, least, greatest, greatest + 1)],
                             [meter.each * number for number in (HUGE - 1, HUGE, HUGE, HUGE + 1)])
            self.assertEqual(meter.count_for(meter.flag + meter.each * HUGE), least)

    def test_scales(self):
        for meter in meters():
            scales = meter.scales()
            self.assertEqual([begin for begin, _ in scales], [0] + [
                min(count for count in range(2000) if plain.jumps_at(meter, count) >= turn) for turn in meter.turns])
            self.assertEqual([list(worths) for _, worths in scales], [table.worths for table in meter.tables])
            for count in range(0, 700, 7):
                self.assertEqual(list(meter.worths_behind(meter.jumps_at(count))), plain.worths_at(meter, count))

    def test_price_at_no_count(self):
        for value in no_numbers(0):
            check_given(self, BadNumber, value, cab_meter().price_at, value)

    def test_no_trip(self):
        for meter in (cab_meter(), triple_meter()):
            for value in no_strings() + list(NO_TRIPS):
                for call in (meter.count, meter.counts, meter, meter.prices, meter.jumps, meter.stand):
                    check_given(self, BadTrip, value, call, value)
            self.assertEqual(meter.start, (0, meter.first))

    def test_returned_lists_are_new(self):
        meter = cab_meter()
        for call in (meter.counts, meter.prices, meter.jumps):
            returned = call("0550")
            kept = list(returned)
            returned[0] = None
            returned.clear()
            self.assertEqual(call("0550"), kept)


class StandsTest(unittest.TestCase):
    def test_start(self):
        for meter in meters():
            self.assertEqual(meter.start, (0, meter.first))
            self.assertEqual(meter.stand(""), meter.start)
            self.assertIs(type(meter.start), tuple)

    def test_stand_compared_with_plain_counting(self):
        some = random.Random(2)
        for meter in meters():
            for trip in plain.all_trips(1) + ["".join(some.choices(plain.DIGITS, k=many)) for many in range(20)]:
                self.assertEqual(meter.stand(trip), plain.stand(meter, trip))

    def test_stands_compared_with_all_trips(self):
        for seed in range(30):
            meter = any_meter(seed, 4, 3)
            for top in (0, 1, 2):
                with self.subTest(meter=meter.text(), top=top):
                    trips = [trip for ticks in range(7) for trip in plain.all_trips(ticks, top)]
                    behind = sorted({plain.stand(meter, trip) for trip in trips})
                    known = meter.stands(top)
                    # Trips of six ticks need not come to all stands, but they come to all near ones.
                    self.assertEqual([stand for stand in behind if stand not in known], [])
                    self.assertEqual(known, sorted(self.closed(meter, behind, top)))
                    self.assertIn(meter.start, known)

    def closed(self, meter, stands, top):
        """Return the set of the stands to which ticks lead from stands on."""
        found = set(stands)
        waiting = list(stands)
        while waiting:
            stand = waiting.pop()
            for speed in range(top + 1):
                behind = meter.after(stand, speed)[0]
                if behind not in found:
                    found.add(behind)
                    waiting.append(behind)
        return found

    def test_stands_of_some_meters(self):
        self.assertEqual(Meter(3, 2, [Table([1] * 10)]).stands(), [(0, 1), (0, 2), (0, 3)])
        self.assertEqual(Meter(3, 2, [Table([2] * 10)]).stands(), [(0, 1), (0, 3)])
        self.assertEqual(Meter(60, 60, [Table([0] * 10)]).stands(), [(0, 60)])
        self.assertEqual(Meter(2, 2, [Table([2] * 10), Table([0] * 10)], [3]).stands(), [(0, 2), (1, 2), (2, 2), (3, 2)])
        self.assertEqual(Meter(1, 1, [Table([0] + [5] * 9), Table([0] * 10)], [2]).stands(), [(0, 1), (2, 1)])
        self.assertEqual(len(Meter(60, 60, [Table(list(range(10)))] * 3, [8, 9]).stands()), 600)

    def test_top_of_stands(self):
        meter = Meter(9, 9, [Table([0, 3, 1, 1, 1, 1, 1, 1, 1, 1])])
        self.assertEqual([meter.stands(0), meter.stands(1), len(meter.stands(2))], [[(0, 9)], [(0, 3), (0, 6), (0, 9)], 9])
        self.assertEqual(meter.stands(), meter.stands(9))
        for value in no_numbers(0, 9):
            check_given(self, BadTop, value, meter.stands, value)

    def test_after_compared_with_trips(self):
        for meter in meters():
            fronts = {meter.start: ""}
            waiting = [""]
            while waiting:
                front = waiting.pop()
                for digit in plain.DIGITS:
                    behind = plain.stand(meter, front + digit)
                    counts = plain.counts(meter, front + digit)
                    jumps = plain.jumps_at(meter, counts[-1]) - plain.jumps_at(meter, counts[-2])
                    self.assertEqual(meter.after(plain.stand(meter, front), int(digit)), (behind, jumps))
                    if behind not in fronts and len(front) < 5:
                        fronts[behind] = front + digit
                        waiting.append(front + digit)

    def test_after_some_stands(self):
        meter = Meter(4, 3, [Table([3, 4, 6, 7, 60, 0, 1, 1, 1, 1]), Table([2] * 10)], [2])
        after = [meter.after((0, 4), speed) for speed in range(6)]
        self.assertEqual(after, [((0, 1), 0), ((1, 3), 1), ((1, 1), 1), ((2, 3), 2), ((2, 1), 19), ((0, 4), 0)])
        self.assertEqual([meter.after((2, 1), 4), meter.after((2, 2), 4), meter.after((1, 1), 2)], [((2, 2), 1), ((2, 3), 1), ((2, 1), 2)])

    def test_no_stand(self):
        meter = Meter(8, 6, [Table([2] * 10), Table([4] * 10)], [2])
        wrong = no_strings() + ["(0, 8)", "08", [0, 8], (0, 8, 0), (0,), ((0, 8),), (0, 0), (0, -1), (0, 10), (3, 2), (-1, 2)]
        wrong += [(False, 8), (0, True), (True, 2), ("0", 8), (0, "8"), (None, 8), (0, None), ([], 8), (0, [8]), ({}, {})]
        wrong += [(0, 1), (0, 3), (1, 8), (1, 1), (HUGE, 8), (0, HUGE), (-HUGE, HUGE), (0, (8,)), {0: 8}, (plain_table(), 8)]
        for value in wrong:
            for speed in (5, None, 10, True):
                check_given(self, BadStand, value, meter.after, value, speed)
        self.assertEqual(meter.after((0, 8), 0), ((0, 6), 0))

    def test_stands_with_true_and_false(self):
        meter = Meter(1, 1, [Table([1] * 10), Table([1] * 10)], [1])
        self.assertEqual(meter.stands(), [(0, 1), (1, 1)])
        for value in ((0, True), (False, 1), (False, True), (True, 1), (1, True), (True, True)):
            check_given(self, BadStand, value, meter.after, value, 0)

    def test_no_speed(self):
        meter = cab_meter()
        for value in no_numbers(0, 9):
            check_given(self, BadSpeed, value, meter.after, (0, 10), value)
        self.assertEqual(meter.after((0, 10), 9), ((0, 4), 2))

    def test_returned_list_is_new(self):
        meter = Meter(3, 2, [Table([1] * 10)])
        meter.after((0, 3), 0)
        stands = meter.stands()
        stands.clear()
        self.assertEqual(meter.stands(), [(0, 1), (0, 2), (0, 3)])
        self.assertEqual(meter.after((0, 3), 0), ((0, 2), 0))


class TextsTest(unittest.TestCase):
    def test_texts(self):
        self.assertEqual(Meter(8, 4, [plain_table()], flag=30, each=10).text(),
                         "first 8 drop 4 flag 30 each 10\n6 6 6 6 8 10 12 14 16 18")
        self.assertEqual(Meter(60, 1, TABLES, (1, 9), flag=1000, each=100).text(),
                         "first 60 drop 1 flag 1000 each 100\n0 1 2 3 4 5 6 7 8 9\nbehind 1\n10 11 12 13 14 15 16 17 18 19\n"
                         "behind 9\n20 21 22 23 24 25 26 27 28 29")

    def test_there_and_back(self):
        for meter in meters() + [made(first=60, drop=60, flag=1000, each=100), made(flag=0)]:
            read = Meter.read(meter.text())
            self.assertTrue(read.same(meter))
            self.assertEqual(read.text(), meter.text())
            self.assertIs(type(read), Meter)
            self.assertEqual([read.first, read.drop, read.flag, read.each, read.turns],
                             [meter.first, meter.drop, meter.flag, meter.each, meter.turns])
            self.assertTrue(all(one.same(other) for one, other in zip(read.tables, meter.tables, strict=True)))

    def test_wrong_first_lines(self):
        wrong = ["", " ", "first", "first 8", "first 8 drop 4 flag 30", "first 8 drop 4 flag 30 each 10 ", " first 8 drop 4 flag 30 each 10"]
        wrong += ["first 8 drop 4 flag 30 each 10 first 8", "drop 4 first 8 flag 30 each 10", "first 8 drop 4 each 10 flag 30"]
        wrong += ["First 8 drop 4 flag 30 each 10", "first  8 drop 4 flag 30 each 10", "first 8, drop 4, flag 30, each 10", "8 4 30 10"]
        wrong += ["first=8 drop=4 flag=30 each=10", "first 8 drop 4 flag 30 each", "8 first 4 drop 30 flag 10 each", "first 8\ndrop 4 flag 30 each 10"]
        for name, (least, most) in LIMITS.items():
            for word in ("", "x", "-1", "+5", "05", "00", "5.0", "1_0", "\u0665", "None", str(most + 1), str(least - 1), str(HUGE), "9" * 5000):
                numbers = {"first": "8", "drop": "4", "flag": "30", "each": "10", name: word}
                wrong.append(" ".join(f"{part} {number}" for part, number in numbers.items()))
        for line in wrong:
            text = line + "\n" + plain_table().text()
            check_given(self, BadText, text, Meter.read, text)

    def test_wrong_texts(self):
        line = "first 8 drop 4 flag 30 each 10"
        table = plain_table().text()
        wrong = [line, line + "\n", "\n" + line + "\n" + table, line + "\n" + table + "\n", line + "\n\n" + table, table, table + "\n" + line]
        wrong += [line + " " + table, line + "\n" + table + " ", line + "\n" + table + "\n" + table, line + "\n" + line + "\n" + table]
        wrong += [line + "\r\n" + table, line + "\n" + table[:-1] + "a", line + "\n" + table + " 5", line + "\n61" + table[1:], line + "\n06" + table[1:]]
        right = f"{line}\n{table}\nbehind 3\n{table}"
        wrong += [f"{line}\n{table}\n{behind}\n{table}" for behind in (
            "", "behind", "behind ", "behind 0", "behind 10", "behind 03", "behind  3", " behind 3", "behind 3 ", "behind -3", "behind x",
            "Behind 3", "before 3", "3", "behind 3 4", "behind\t3", "behind 3.0", "behind " + "9" * 5000)]
        wrong += [right + "\nbehind 5", right + f"\nbehind 3\n{table}", right + f"\nbehind 2\n{table}", right + f"\nbehind 4\n{table}\nbehind 5\n{table}"]
        wrong += [f"{line}\n{table}\nbehind 3", f"{line}\nbehind 3\n{table}", f"{line}\n{table}\nbehind 3\n{table}\n"]
        for value in wrong + no_strings():
            check_given(self, BadText, value, Meter.read, value)
        self.assertEqual(Meter.read(right).text(), right)
        self.assertEqual(Meter.read(right + f"\nbehind 4\n{table}").turns, (3, 4))

    def test_wrong_values_are_no_texts(self):
        for value in no_integers():
            check_given(self, BadText, value, Meter.read, value)


if __name__ == "__main__":
    unittest.main()
