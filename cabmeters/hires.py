"""One hire or several: what a trip costs if the passenger takes a cab anew on the way."""

from cabmeters.against import holds_amounts, pairs_graph
from cabmeters.errors import BadNumber, BadTicks
from cabmeters.graphs import Gains
from cabmeters.integers import is_between, is_count
from cabmeters.trips import TOP_SPEED, check_top, check_trip


def split_price(meter, trip, ticks):
    """Return the sum of the prices of the parts of a split of a trip."""
    check_trip(trip)
    if not _is_split(trip, ticks):
        raise BadTicks(ticks)
    ends = ticks + [len(trip)]
    return sum([meter(trip[begin:end]) for begin, end in zip([0] + ticks, ends)])


def best_split(meter, trip, most=None):
    """Return the tuple (price, ticks) of a split with the least price, into at most so many hires."""
    check_trip(trip)
    if most is not None and (not is_count(most) or most == 0):
        raise BadNumber(most)
    columns = _part_prices(meter, trip)
    ticks = _cheapest_split(columns)
    if most is not None and len(ticks) >= most:
        ticks = _cheapest_split_up_to(columns, most)
    return split_price(meter, trip, ticks), ticks


def greatest_cost(meter, top=TOP_SPEED):
    """Return the tuple (cost, front, back) of the greatest cost of a new hire, or None if it has no bound."""
    check_top(top)
    stands = meter.stands(top)
    found = _greatest_gain(meter, [(meter.start, stand) for stand in stands], top)
    if found is None:
        return None
    place, gain, back = found
    return meter.flag + gain, _trip_to(meter, stands[place], top), back


def greatest_saving(meter, top=TOP_SPEED):
    """Return the tuple (saving, front, back) of the greatest saving of a new hire, or None if it has no bound."""
    check_top(top)
    stands = meter.stands(top)
    found = _greatest_gain(meter, [(stand, meter.start) for stand in stands], top)
    if found is None:
        return None
    place, gain, back = found
    return gain - meter.flag, _trip_to(meter, stands[place], top), back


def saving_amounts(meter, top=TOP_SPEED):
    """Return a dict from pairs of stands to amounts that shows that no trip has a greater saving, or None."""
    check_top(top)
    graph = pairs_graph(meter, meter, [(stand, meter.start) for stand in meter.stands(top)], top)
    gains = Gains(graph)
    if gains.ring() is not None:
        return None
    return dict(zip(graph.nodes(), gains.amounts()))


def is_saving_amounts(meter, amounts, saving, top=TOP_SPEED):
    """Tell whether a dict from pairs of stands to amounts shows that no trip has a saving above this one."""
    check_top(top)
    starts = [(stand, meter.start) for stand in meter.stands(top)]
    if not all([pair in amounts and amounts[pair] <= saving + meter.flag for pair in starts]):
        return False
    return holds_amounts(meter, meter, amounts, top)


def _is_split(trip, value):
    """Tell whether any value is a split of a trip."""
    if not isinstance(value, list) or not all([is_between(tick, 1, len(trip) - 1) for tick in value]):
        return False
    return all([value[at] < value[at + 1] for at in range(len(value) - 1)])


def _part_prices(meter, trip):
    """Return a list that has for each number of ticks the list of the prices of the parts of the trip that end there.

    The parts are those from tick 0 on, from tick 1 on, and so on; none of them is empty.
    """
    columns = [[] for _ in range(len(trip) + 1)]
    for begin in range(len(trip)):
        for place, price in enumerate(meter.prices(trip[begin:])[1:]):
            columns[begin + place + 1].append(price)
    return columns


def _cheapest_split(columns):
    """Return a split with the least price, with as few hires as such a split can have."""
    # Prices and hires are one number, in which each hire counts 1 and each price more than all hires.
    whole = len(columns)
    costs = [0]
    begins = [0]
    for column in columns[1:]:
        sums = [cost + price * whole + 1 for cost, price in zip(costs, column)]
        costs.append(min(sums))
        begins.append(sums.index(costs[-1]))
    ticks = []
    end = len(columns) - 1
    while begins[end] > 0:
        end = begins[end]
        ticks.append(end)
    return ticks[::-1]


def _cheapest_split_up_to(columns, most):
    """Return a split with the least price into at most so many hires."""
    # For each number of hires, the least prices up to each tick; the part before the first hire is the empty one.
    rounds = [[column[0] for column in columns[1:]]]
    while len(rounds) < most:
        before = rounds[-1]
        rounds.append([min([before[at]] + [price + more for price, more in zip(before, columns[at + 1][1:])])
                       for at in range(len(before))])
    ticks = []
    at = len(columns) - 2
    for before in rounds[:-1][::-1]:
        sums = [price + more for price, more in zip(before, columns[at + 1][1:])]
        # Only what is cheaper than all splits with fewer hires has one hire more. Then all hires before are needed.
        if min(sums) < before[at]:
            at = sums.index(min(sums))
            ticks.append(at + 1)
    return ticks[::-1]


def _greatest_gain(meter, starts, top):
    """Return the tuple (place, gain, trip) of the greatest gain from one of some pairs on, or None without a bound."""
    gains = Gains(pairs_graph(meter, meter, starts, top))
    if gains.ring() is not None:
        return None
    amounts = gains.amounts()[:len(starts)]
    place = amounts.index(max(amounts))
    return place, amounts[place], gains.trip_from(place)


def _trip_to(meter, stand, top):
    """Return a shortest trip with no speed above `top` that leads to a stand."""
    graph = pairs_graph(meter, meter, [(meter.start, meter.start)], top)
    return graph.trip_to(graph.nodes().index((stand, stand)))
