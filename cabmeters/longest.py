"""The most that a price can grow by in so many ticks, and per tick for ever."""

from math import gcd

from cabmeters.against import priced_steps
from cabmeters.errors import BadTicks
from cabmeters.graphs import Gains, Graph
from cabmeters.integers import is_between
from cabmeters.trips import TOP_SPEED, check_top

MOST_TICKS = 200


def most_in(meter, ticks, top=TOP_SPEED):
    """Return the tuple (amount, front, trip) of the most that the price grows by in so many ticks behind a front."""
    _check(ticks, top)
    graph = _graph(meter, top)
    rounds = _most_rounds(graph, ticks)
    amount = max(rounds[-1])
    start = rounds[-1].index(amount)
    trip = ""
    place = start
    for most in rounds[:-1][::-1]:
        speed = _best_speed(graph.rows()[place], most)
        trip += str(speed)
        place = graph.rows()[place][speed][0]
    return amount, graph.trip_to(start), trip


def most_by_ticks(meter, ticks, top=TOP_SPEED):
    """Return the list of the most that the price grows by in 0, 1, and so on, up to so many ticks."""
    _check(ticks, top)
    return [max(most) for most in _most_rounds(_graph(meter, top), ticks)]


def greatest_pace(meter, top=TOP_SPEED):
    """Return the tuple (pace, front, ring) of the greatest mean growth per tick and a ring that has it."""
    check_top(top)
    graph = _graph(meter, top)
    pace, place, ring, _ = _best_ring(graph)
    return pace, graph.trip_to(place), ring


def pace_amounts(meter, top=TOP_SPEED):
    """Return a dict from the stands of a meter to amounts that shows that no ring has a greater mean."""
    check_top(top)
    graph = _graph(meter, top)
    _, _, _, gains = _best_ring(graph)
    return dict(zip(graph.nodes(), gains.amounts()))


def is_pace_amounts(meter, pace, amounts, top=TOP_SPEED):
    """Tell whether a dict from stands to amounts shows that no ring has a greater mean than this one."""
    check_top(top)
    upper, lower = pace
    rows = meter.ahead(top)
    if len(amounts) != len(rows) or not all([stand in amounts for stand in rows]):
        return False
    for stand, row in rows.items():
        for behind, jumps in row:
            if amounts[stand] < lower * meter.each * jumps - upper + amounts[behind]:
                return False
    return True


def _check(ticks, top):
    """Raise BadTicks or BadTop if any values are not a number of ticks and a greatest speed."""
    if not is_between(ticks, 0, MOST_TICKS):
        raise BadTicks(ticks)
    check_top(top)


def _graph(meter, top):
    """Return the graph of the stands of a meter, where a tick gains what it adds to the price."""
    return Graph([meter.start], priced_steps(meter, top))


def _most_rounds(graph, ticks):
    """Return a list that has for each number of ticks the list of the most that can be gained from each place on."""
    rounds = [[0 for _ in graph.rows()]]
    while len(rounds) <= ticks:
        last = rounds[-1]
        rounds.append([max([gain + last[behind] for behind, gain in row]) for row in graph.rows()])
    return rounds


def _best_speed(row, most):
    """Return the speed with the most gain in a tick and behind it."""
    gains = [gain + most[behind] for behind, gain in row]
    return gains.index(max(gains))


def _best_ring(graph):
    """Return the tuple (pace, place, ring, gains) of a ring with the greatest mean, and of what shows that it is.

    These are the gains that are left if each tick takes the pace away: so much that no ring gains anything.
    """
    place, ring = _standing_ring(graph)
    pace = _pace_of(graph, place, ring)
    upper, lower = pace
    gains = Gains(graph, lower, upper)
    while gains.ring() is not None:
        place, ring = gains.ring()
        pace = _pace_of(graph, place, ring)
        upper, lower = pace
        gains = Gains(graph, lower, upper)
    return pace, place, ring, gains


def _standing_ring(graph):
    """Return the tuple (place, ring) of the ring in which a cab that stands ends."""
    seen = {}
    place = 0
    while place not in seen:
        seen[place] = len(seen)
        place = graph.rows()[place][0][0]
    return place, "0" * (len(seen) - seen[place])


def _pace_of(graph, place, ring):
    """Return the mean gain of a ring, in lowest terms."""
    gained = 0
    for digit in ring:
        place, gain = graph.rows()[place][int(digit)]
        gained += gain
    common = gcd(gained, len(ring))
    return gained // common, len(ring) // common
