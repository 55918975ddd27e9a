"""Two meters against one another: trips that part them, and by how much one of them can be the dearer one."""

from cabmeters.graphs import Gains, Graph, parting_from
from cabmeters.trips import TOP_SPEED, check_top


def parting_trip(one, other, top=TOP_SPEED):
    """Return a shortest trip behind which two meters show different prices, or None if there is none."""
    check_top(top)
    if one.flag != other.flag:
        return ""
    return parting_from(one.start, other.start, priced_steps(one, top), priced_steps(other, top))


def alike_pairs(one, other, top=TOP_SPEED):
    """Return a list of pairs of stands that shows that two meters always show the same price, or None."""
    if parting_trip(one, other, top) is not None:
        return None
    return sorted(pairs_graph(one, other, [(one.start, other.start)], top).nodes())


def is_alike_pairs(one, other, pairs, top=TOP_SPEED):
    """Tell whether a list of pairs of stands shows that two meters always show the same price."""
    check_top(top)
    following = _following(one, other, pairs, top)
    if following is None or one.flag != other.flag:
        return False
    known = {pair: True for pair in pairs}
    needed = [step for row in following for step in row] + [((one.start, other.start), 0)]
    return all([gain == 0 and pair in known for pair, gain in needed])


def greatest_excess(one, other, top=TOP_SPEED):
    """Return the tuple (excess, trip) of the greatest excess and a trip that has it, or None if it has no bound."""
    check_top(top)
    gains = Gains(pairs_graph(one, other, [(one.start, other.start)], top))
    if gains.ring() is not None:
        return None
    return one.flag - other.flag + gains.amounts()[0], gains.trip_from(0)


def excess_ring(one, other, top=TOP_SPEED):
    """Return a tuple (front, ring) of trips with which the excess grows for ever, or None if there are none."""
    check_top(top)
    graph = pairs_graph(one, other, [(one.start, other.start)], top)
    found = Gains(graph).ring()
    if found is None:
        return None
    place, ring = found
    return graph.trip_to(place), ring


def never_dearer(one, other, top=TOP_SPEED):
    """Tell whether no trip has an excess above 0."""
    greatest = greatest_excess(one, other, top)
    return greatest is not None and greatest[0] <= 0


def excess_amounts(one, other, top=TOP_SPEED):
    """Return a dict from pairs of stands to amounts that shows that no trip has a greater excess, or None."""
    check_top(top)
    graph = pairs_graph(one, other, [(one.start, other.start)], top)
    gains = Gains(graph)
    if gains.ring() is not None:
        return None
    return dict(zip(graph.nodes(), gains.amounts()))


def is_excess_amounts(one, other, amounts, excess, top=TOP_SPEED):
    """Tell whether a dict from pairs of stands to amounts shows that no trip has an excess above this one."""
    check_top(top)
    start = (one.start, other.start)
    if start not in amounts or amounts[start] != excess - one.flag + other.flag:
        return False
    return holds_amounts(one, other, amounts, top)


def pairs_graph(one, other, starts, top):
    """Return the graph of the pairs of stands of two meters from some pairs on, where a tick gains the excess."""
    rows = one.ahead(top)
    other_rows = other.ahead(top)
    return Graph(starts, lambda pair: _row(one, other, rows[pair[0]], other_rows[pair[1]]))


def holds_amounts(one, other, amounts, top):
    """Tell whether the amounts in a dict from pairs of stands are at least 0 and never too low.

    The amount of each pair is at least that of the pair behind a tick and what the tick adds to the excess.
    """
    pairs = list(amounts)
    following = _following(one, other, pairs, top)
    if following is None or not all([amount >= 0 for amount in amounts.values()]):
        return False
    for pair, row in zip(pairs, following):
        if not all([behind in amounts and amounts[pair] >= amounts[behind] + gain for behind, gain in row]):
            return False
    return True


def priced_steps(meter, top):
    """Return the function from a stand to the list of the tuples (stand, what a tick adds to the price) behind it."""
    rows = meter.ahead(top)
    return lambda stand: [(behind, meter.each * jumps) for behind, jumps in rows[stand]]


def _row(one, other, steps, other_steps):
    """Return the list of the tuples (pair, gain) behind a tick with each speed, from what each meter does in it."""
    each = one.each
    other_each = other.each
    return [((stand, other_stand), each * jumps - other_each * other_jumps)
            for (stand, jumps), (other_stand, other_jumps) in zip(steps, other_steps)]


def _following(one, other, pairs, top):
    """Return the list of what follows for each pair in a list, or None if one is no pair of stands of the meters."""
    rows = one.ahead(TOP_SPEED)
    other_rows = other.ahead(TOP_SPEED)
    if not all([len(pair) == 2 and pair[0] in rows and pair[1] in other_rows for pair in pairs]):
        return None
    return [_row(one, other, rows[stand][:top + 1], other_rows[other_stand][:top + 1]) for stand, other_stand in pairs]
