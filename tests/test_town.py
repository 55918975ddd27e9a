"""Tests of cabmeters.town: points [51] to [55], and points [3] and [4] for them."""

import itertools
import random
import time
import unittest

from cabmeters.errors import BadPrice, BadStretches, BadTrip
from cabmeters.meters import Meter
from cabmeters.tables import Table
from cabmeters.town import Route, dearer_waits, is_waits_paper, waits_paper
from tests import plain
from tests.samples import (
    HUGE, NO_TRIPS, any_meter, cab_meter, caught, check_given, double_meter, no_numbers, no_strings, triple_meter)


def along_route():
    """Return the shorter route that the interface shows."""
    return Route([("road", 6, 3), ("light", 2), ("road", 3, 3)])


def around_route():
    """Return the longer route that the interface shows."""
    return Route([("road", 10, 5), ("light", 2), ("road", 5, 5)])


def trips_on(stretch):
    """Return the list of all trips along one stretch."""
    if stretch[0] == "light":
        return ["0" * ticks for ticks in range(stretch[1] + 1)]
    _, steps, most = stretch
    if steps == 0:
        return [""]
    return [str(speed) + rest for speed in range(1, min(most, steps) + 1) for rest in trips_on(("road", steps - speed, most))]


def trips_along(route):
    """Return the list of the different trips along a route."""
    return sorted({"".join(parts) for parts in itertools.product(*[trips_on(stretch) for stretch in route.stretches])})


def with_waits(route, waits):
    """Return the list of all trips along a route with these waits."""
    waits = list(waits)
    parts = [["0" * waits.pop(0)] if stretch[0] == "light" else trips_on(stretch) for stretch in route.stretches]
    return ["".join(row) for row in itertools.product(*parts)]


def price_of(meter, trip):
    """Return the price behind a trip."""
    return plain.price(meter, plain.counts(meter, trip)[-1])


def short_routes():
    """Return a list of routes with few trips."""
    found = [along_route(), around_route(), Route([("light", 0)]), Route([("light", 3), ("light", 2), ("light", 0)]),
             Route([("road", 1, 1)]), Route([("road", 5, 9)]), Route([("road", 3, 2), ("road", 2, 1), ("road", 4, 4)]),
             Route([("light", 2), ("road", 4, 3), ("light", 1), ("light", 1), ("road", 2, 2), ("light", 2)]),
             Route([("light", 1)] * 12), Route([("road", 1, 2)] * 12)]
    for seed in range(20):
        some = random.Random(seed)
        found.append(Route([("road", some.randint(1, 4), some.randint(1, 9)) if some.random() < 0.6 else
                            ("light", some.randint(0, 3)) for _ in range(some.randint(1, 4))]))
    return found


def some_meters():
    """Return a list of meters of all kinds."""
    return [cab_meter(), double_meter(), triple_meter()] + [any_meter(seed, 9, 12) for seed in range(4)]


class RouteTest(unittest.TestCase):
    def test_properties(self):
        stretches = [("road", 6, 3), ("light", 2), ("light", 0), ("road", 60, 9), ("light", 9)]
        given = list(stretches)
        route = Route(stretches)
        self.assertEqual([route.stretches, route.steps, route.lights], [given, 66, [2, 0, 9]])
        self.assertEqual(stretches, given)
        stretches.clear()
        route.stretches.append(7)
        route.lights.append(7)
        self.assertEqual([route.stretches, route.steps, route.lights], [given, 66, [2, 0, 9]])
        self.assertEqual([Route([("light", 4)]).steps, Route([("road", 4, 4)]).lights], [0, []])
        self.assertEqual(len(Route([("road", 60, 9)] * 12).stretches), 12)

    def test_wrong_stretches(self):
        road, light = ("road", 6, 3), ("light", 2)
        wrong = [[], [road] * 13, (road, light), road, light, [list(road)], [road, ["light", 2]], [("road", 6)],
                 [("light", 2, 2)], [("road", 0, 3)], [("road", 61, 3)], [("road", 6, 0)], [("road", 6, 10)],
                 [("light", -1)], [("light", 10)], [("road", True, 3)], [("road", 6, True)], [("light", False)],
                 [("light", True)], [("road", "6", 3)], [("light", None)], [("Road", 6, 3)], [("lights", 2)], [road, None],
                 [None], ["road"], [()], [("road",)], [("light",)], [(("road",), 6, 3)], [("road", (6,), 3)], [("road", 6, [3])],
                 [("light", HUGE)], [("road", -HUGE, 3)], {0: road}, "road", [[road]], [road, light, ("road", 6, 3, 3)],
                 [("light", 6, 3)], [("road", 2)], [light, road[:2]], [Route([road])], Route([road]), [{"light": 2}],
                 [("light", cab_meter())], [(cab_meter(), 2)], [(["road"], 6, 3)]]
        for value in wrong + no_strings() + ["", "light"]:
            check_given(self, BadStretches, value, Route, value)

    def test_trips_compared_with_all_trips(self):
        for route in short_routes():
            trips = trips_along(route)
            some = random.Random(str(route.stretches))
            for trip in some.sample(trips, min(len(trips), 40)):
                self.assertTrue(route.has(trip))
                at = some.randrange(len(trip) + 1)
                for other in (trip[:at] + some.choice("0123456789") + trip[at:], trip[:at] + trip[at + 1:],
                              trip[:at] + some.choice("0123") + trip[at + 1:], trip[::-1]):
                    self.assertIs(route.has(other), other in trips, (route.stretches, other))
            for ticks in range(4):
                for trip in plain.all_trips(ticks, 4):
                    self.assertIs(route.has(trip), trip in trips, (route.stretches, trip))

    def test_long_trips(self):
        route = Route([("road", 60, 9), ("light", 9)] * 6)
        self.assertTrue(route.has(("1" * 60 + "0" * 9) * 6))
        self.assertTrue(route.has(("9" * 6 + "6") * 6))
        self.assertFalse(route.has(("9" * 6 + "6") * 5))
        self.assertFalse(route.has(("1" * 60 + "0" * 9) * 6 + "0"))
        self.assertFalse(route.has("0" * 2000))
        self.assertFalse(Route([("light", 2)]).has("000"))
        self.assertTrue(Route([("light", 2)]).has(""))

    def test_prices_compared_with_all_trips(self):
        for route in short_routes():
            for meter in some_meters():
                shown = {}
                for trip in trips_along(route):
                    shown.setdefault(price_of(meter, trip), []).append(trip)
                with self.subTest(stretches=route.stretches, meter=meter.text()):
                    self.assertEqual(route.prices(meter), sorted(shown))
                    for price in sorted(shown)[:4] + sorted(shown)[-3:]:
                        self.assertIn(route.trip_for(meter, price), shown[price])
                    for price in {0, 1, meter.flag, max(shown) + meter.each, max(shown) + 1, HUGE, min(shown) + 1} - set(shown):
                        self.assertIsNone(route.trip_for(meter, price))

    def test_the_slowest_and_the_fastest_trip_need_not_be_the_cheapest_ones(self):
        # The later table has lesser worths, and the faster trip comes to it later.
        meter = Meter(5, 5, [Table([0, 9, 1] + [9] * 7), Table([0] * 10)], [1])
        route = Route([("road", 6, 2)])
        self.assertEqual(route.prices(meter), [0, 1, 2])
        self.assertEqual([meter("222"), meter("111111")], [0, 1])
        self.assertEqual(route.prices(double_meter())[0], min(double_meter()(trip) for trip in trips_along(route)))

    def test_long_routes(self):
        for route in (Route([("road", 60, 9)] * 12), Route([("road", 60, 9), ("light", 9)] * 6), Route([("light", 9)] * 12)):
            for meter in (cab_meter(), triple_meter(), any_meter(3)):
                begin = time.perf_counter()
                prices = route.prices(meter)
                self.assertEqual(prices, sorted(prices))
                for price in (prices[0], prices[-1], prices[len(prices) // 2]):
                    trip = route.trip_for(meter, price)
                    self.assertTrue(route.has(trip))
                    self.assertEqual(meter(trip), price)
                some = random.Random(5)
                trip = "".join(some.choice(["1" * 60, "9" * 6 + "6", "54321" * 4]) if stretch[0] == "road" else
                               "0" * some.randint(0, 9) for stretch in route.stretches)
                self.assertTrue(route.has(trip))
                self.assertIn(meter(trip), prices)
                self.assertLess(time.perf_counter() - begin, 5)

    def test_wrong_values(self):
        route = along_route()
        for value in no_strings() + list(NO_TRIPS):
            check_given(self, BadTrip, value, route.has, value)
        for value in no_numbers(0):
            check_given(self, BadPrice, value, route.trip_for, cab_meter(), value)
        self.assertEqual(route.stretches, along_route().stretches)

    def test_returned_lists_are_new(self):
        route = along_route()
        before = route.prices(cab_meter())
        route.prices(cab_meter()).clear()
        self.assertEqual(route.prices(cab_meter()), before)


def waits_of(one, other):
    """Return the list of all waits at the lights of two routes."""
    return list(itertools.product(*[range(min(holds) + 1) for holds in zip(one.lights, other.lights)]))


def is_dearer(one, other, meter):
    """Tell whether there are waits and trips with them of which that along the first route is the dearer one."""
    return any(max(price_of(meter, trip) for trip in with_waits(one, waits))
               > min(price_of(meter, trip) for trip in with_waits(other, waits)) for waits in waits_of(one, other))


def counts_behind(meter, count, roads):
    """Return the set of the counts to which roads lead from a count, trip by trip."""
    found = set()
    for parts in itertools.product(*[trips_on(road) for road in roads]):
        behind = count
        for digit in "".join(parts):
            behind += plain.worths_at(meter, behind)[int(digit)]
        found.add(behind)
    return found


def waited(meter, count, ticks):
    """Return the count behind so many ticks of waiting."""
    for _ in range(ticks):
        count += plain.worths_at(meter, count)[0]
    return count


def roads_between(one, other):
    """Return two lists, one for each route, of the rows of roads before each light and behind the last one."""
    rows = []
    for route in (one, other):
        rows.append([[]])
        for stretch in route.stretches:
            if stretch[0] == "light":
                rows[-1].append([])
            else:
                rows[-1][-1].append(stretch)
    return rows


def is_shown(one, other, meter, paper):
    """Tell what point 55 says of a paper, sentence by sentence."""
    rows = roads_between(one, other)
    holds = [min(pair) for pair in zip(one.lights, other.lights)]
    if len(paper) != len(holds) + 1 or (0, 0) not in paper[0]:
        return False
    for number, listed in enumerate(paper):
        for count, other_count in listed:
            ends = counts_behind(meter, count, rows[0][number])
            other_ends = counts_behind(meter, other_count, rows[1][number])
            if number == len(holds):
                if plain.price(meter, max(ends)) > plain.price(meter, min(other_ends)):
                    return False
                continue
            for end, other_end, ticks in itertools.product(ends, other_ends, range(holds[number] + 1)):
                if (waited(meter, end, ticks), waited(meter, other_end, ticks)) not in paper[number + 1]:
                    return False
    return True


def route_pairs():
    """Return a list of tuples (one, other) of short routes with equally many lights."""
    routes = short_routes()
    found = [(one, other) for one in routes for other in routes
             if len(one.lights) == len(other.lights) and len(one.lights) < 4
             and len(trips_along(one)) * len(trips_along(other)) < 3000]
    return random.Random(54).sample(found, 90) + [(route, route) for route in routes[2:6]] + [
        (Route([("light", 2), ("road", 2, 2), ("light", 1)]), Route([("light", 1), ("road", 3, 2), ("light", 3)])),
        (Route([("road", 2, 2), ("light", 1)]), Route([("road", 4, 2), ("light", 3), ("road", 2, 1)])),
        (Route([("road", 2, 2), ("light", 3), ("road", 2, 1)]), Route([("road", 4, 2), ("light", 3), ("road", 3, 1)]))]


def fair_meters():
    """Return a list of meters of which some never charge less for a longer way."""
    return [Meter(3, 3, [Table.both(0, 1)]), Meter(3, 2, [Table.both(0, 1), Table.both(0, 2)], [2], flag=5, each=3),
            Meter(5, 5, [Table.both(2, 0)]), cab_meter(), any_meter(2, 9, 9), Meter(5, 5, [Table([0] * 10)])]


class WaitsTest(unittest.TestCase):
    def check_dearer(self, one, other, meter, found):
        self.assertIsInstance(found, tuple)
        waits, trip, other_trip = found
        self.assertIsInstance(waits, list)
        self.assertIn(tuple(waits), waits_of(one, other))
        self.assertIn(trip, with_waits(one, waits))
        self.assertIn(other_trip, with_waits(other, waits))
        self.assertGreater(price_of(meter, trip), price_of(meter, other_trip))

    def test_compared_with_all_trips(self):
        told = {True: 0, False: 0}
        for place, (one, other) in enumerate(route_pairs()):
            for meter in (fair_meters()[place % 6], fair_meters()[(place + 1) % 6]):
                with self.subTest(one=one.stretches, other=other.stretches, meter=meter.text()):
                    dearer = is_dearer(one, other, meter)
                    found = dearer_waits(one, other, meter)
                    paper = waits_paper(one, other, meter)
                    told[dearer] += 1
                    if dearer:
                        self.check_dearer(one, other, meter, found)
                        self.assertIsNone(paper)
                    else:
                        self.assertIsNone(found)
                        self.assertTrue(is_shown(one, other, meter, paper))
                        self.assertTrue(is_waits_paper(one, other, meter, paper))
        self.assertGreater(min(told.values()), 40)

    def test_papers_of_all_kinds(self):
        some = random.Random(55)
        told = {True: 0, False: 0}
        for one, other in route_pairs()[::2] + route_pairs()[-6:]:
            for meter in some.sample(fair_meters(), 3):
                paper = waits_paper(one, other, meter)
                if paper is None:
                    lights = len(one.lights)
                    for wrong in ([[(0, 0)]] + [[] for _ in range(lights)], [[(0, 0), (0, 5)]] * (lights + 1)):
                        self.assertIs(is_waits_paper(one, other, meter, wrong), is_shown(one, other, meter, wrong))
                    continue
                number = some.randrange(len(paper))
                far = (some.randint(0, 3), 10 ** 30 + some.randint(0, 9))
                papers = [paper, paper[:-1], paper + [[]], [], [[]] * len(paper), [listed * 2 for listed in paper],
                          [listed[::-1] for listed in paper], self.changed(paper, number, (0, 0)),
                          self.changed(paper, number, (some.randint(0, 40), some.randint(0, 40))),
                          self.changed(paper, len(paper) - 1, (0, 10 ** 30)), self.changed(paper, number, far),
                          self.changed(paper, len(paper) - 1, (10 ** 30, 10 ** 30 + 99)),
                          self.changed(paper, len(paper) - 1, (10 ** 30, 99)),
                          [listed[1:] if at == number else listed for at, listed in enumerate(paper)],
                          self.closed(one, other, meter, paper, far), self.closed(one, other, meter, paper, far[::-1])]
                for changed in papers:
                    given = [list(listed) for listed in changed]
                    with self.subTest(one=one.stretches, other=other.stretches, meter=meter.text(), paper=changed):
                        shown = is_waits_paper(one, other, meter, changed)
                        self.assertIs(shown, is_shown(one, other, meter, changed))
                        self.assertEqual(changed, given)
                        told[shown] += 1
        self.assertGreater(min(told.values()), 100)

    def test_papers_with_counts_of_all_sizes(self):
        meter = Meter(1, 1, [Table.both(1, 1)])
        one = Route([("road", 2, 2), ("light", 1), ("light", 2), ("road", 1, 1)])
        other = Route([("road", 4, 1), ("light", 2), ("light", 1), ("road", 3, 1)])
        paper = waits_paper(one, other, meter)
        for size in list(range(0, 1500, 7)) + [10 ** 4, 10 ** 30]:
            closed = self.closed(one, other, meter, paper, (size // 2, size))
            self.assertIs(is_waits_paper(one, other, meter, closed), is_shown(one, other, meter, closed))
            for number in (1, 2):
                fewer = [listed[:-1] if at == number else listed for at, listed in enumerate(closed)]
                self.assertIs(is_waits_paper(one, other, meter, fewer), is_shown(one, other, meter, fewer))

    def test_last_roads_from_very_great_counts(self):
        meter = Meter(1, 1, [Table.both(0, 1)])
        one = Route([("light", 0), ("road", 5, 5)])
        other = Route([("road", 1, 1), ("light", 0), ("road", 5, 5)])
        for more, shown in ((0, True), (1, True), (-1, False)):
            paper = [[(0, 0)], [(0, 1), (10 ** 30, 10 ** 30 + more)]]
            self.assertIs(is_waits_paper(one, other, meter, paper), shown)
            self.assertIs(is_shown(one, other, meter, paper), shown)

    def changed(self, paper, number, pair):
        """Return a paper with one pair more in one of its lists."""
        return [listed + [pair] if at == number else listed for at, listed in enumerate(paper)]

    def closed(self, one, other, meter, paper, pair):
        """Return a paper with a pair more in its first list, and with all pairs to which it leads."""
        rows = roads_between(one, other)
        pairs = {pair}
        found = []
        for number, listed in enumerate(paper):
            found.append(listed + sorted(pairs))
            if number + 1 < len(paper):
                hold = min(one.lights[number], other.lights[number])
                pairs = {(waited(meter, end, ticks), waited(meter, other_end, ticks)) for count, other_count in pairs
                         for end in counts_behind(meter, count, rows[0][number])
                         for other_end in counts_behind(meter, other_count, rows[1][number]) for ticks in range(hold + 1)}
        return found

    def test_routes_without_lights_and_of_lights_alone(self):
        short, long = Route([("road", 3, 3)]), Route([("road", 4, 3), ("road", 2, 2)])
        meter = Meter(2, 2, [Table.both(0, 1)])
        self.assertEqual([dearer_waits(short, long, meter), waits_paper(short, long, meter)], [None, [[(0, 0)]]])
        self.check_dearer(long, short, meter, dearer_waits(long, short, meter))
        self.assertEqual(dearer_waits(long, short, meter)[0], [])
        lights, holds = Route([("light", 3), ("light", 0)]), Route([("light", 1), ("light", 9)])
        timer = Meter(2, 2, [Table.both(1, 0)])
        self.assertIsNone(dearer_waits(lights, holds, timer))
        self.assertEqual([sorted(listed) for listed in waits_paper(lights, holds, timer)],
                         [[(0, 0)], [(0, 0), (1, 1)], [(0, 0), (1, 1)]])

    def test_the_wait_is_equally_long_on_both(self):
        # With a longer wait on one of both, the route to itself would be dearer.
        timer = Meter(1, 1, [Table([1] + [0] * 9)])
        route = Route([("road", 5, 5), ("light", 9), ("road", 3, 1)])
        self.assertIsNone(dearer_waits(route, route, timer))
        self.assertEqual(waits_paper(route, route, timer), [[(0, 0)], [(ticks, ticks) for ticks in range(10)]])

    def test_unlike_numbers_of_lights(self):
        one, other = along_route(), Route([("road", 6, 3)])
        many = Route([("light", 1), ("light", 2), ("road", 2, 2)])
        for first, second in ((one, other), (other, one), (one, many), (many, other)):
            for call, more in ((dearer_waits, ()), (waits_paper, ()), (is_waits_paper, ([[(0, 0)]],)), (is_waits_paper, ([],))):
                error = caught(self, BadStretches, call, first, second, cab_meter(), *more)
                self.assertEqual(error.given, second.stretches)
                error.given.clear()
        self.assertEqual(one.stretches, along_route().stretches)
        self.assertEqual(many.lights, [1, 2])

    def test_40_steps_end_soon(self):
        some = random.Random(40)
        tables = [Table([some.randint(0, 30) for _ in range(10)]) for _ in range(3)]
        begin = time.perf_counter()
        for meter in (cab_meter(), Meter(13, 7, tables, [3, 9]), Meter(60, 60, tables[:1]), Meter(20, 9, [Table.both(0, 3)])):
            for one, other in (
                    (Route([("road", 20, 9), ("light", 9), ("road", 20, 9)]),
                     Route([("road", 30, 3), ("light", 9), ("road", 10, 9)])),
                    (Route([("road", 7, 9), ("light", 9)] * 5 + [("road", 5, 9)]),
                     Route([("road", 5, 3), ("light", 9)] * 5 + [("road", 15, 9)])),
                    (Route([("light", 9)] * 11 + [("road", 40, 9)]), Route([("light", 9)] * 11 + [("road", 38, 9)]))):
                for first, second in ((one, other), (other, one)):
                    found = dearer_waits(first, second, meter)
                    paper = waits_paper(first, second, meter)
                    self.assertEqual(found is None, paper is not None)
                    if found is None:
                        self.assertTrue(is_waits_paper(first, second, meter, paper))
                    else:
                        waits, trip, other_trip = found
                        self.assertTrue(first.has(trip) and second.has(other_trip))
                        self.assertEqual([trip.count("0"), other_trip.count("0")], [sum(waits)] * 2)
                        self.assertGreater(meter(trip), meter(other_trip))
        self.assertLess(time.perf_counter() - begin, 30)

    def test_returned_lists_are_new(self):
        route = Route([("road", 2, 1), ("light", 1)])
        meter = Meter(2, 2, [Table.both(0, 1)])
        paper = waits_paper(route, route, meter)
        paper[0].clear()
        paper.clear()
        self.assertEqual(waits_paper(route, route, meter), [[(0, 0)], [(2, 2)]])
        long = Route([("road", 5, 1), ("light", 1)])
        found = dearer_waits(long, route, meter)
        found[0].append(7)
        self.check_dearer(long, route, meter, dearer_waits(long, route, meter))


if __name__ == "__main__":
    unittest.main()
