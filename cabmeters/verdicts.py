"""What holds for all trips that fit a record: verdicts on claims, and papers that show them step by step."""

from cabmeters.errors import BadClaim, BadTick
from cabmeters.integers import is_between, is_count
from cabmeters.places import counts_in, leaving, led
from cabmeters.tables import MOST_WORTH
from cabmeters.tallies import least_way
from cabmeters.trips import is_speeds


def verdict_on(record, claim):
    """Return "always", "never", "sometimes" or "none": for which trips that fit a claim holds."""
    holds = trip_with(record, claim) is not None
    fails = trip_without(record, claim) is not None
    if holds and fails:
        return "sometimes"
    if holds:
        return "always"
    return "never" if fails else "none"


def trip_with(record, claim):
    """Return a trip that fits for which a claim holds, or None if there is none."""
    check_claim(record, claim)
    return _trip_where(record, claim, True)


def trip_without(record, claim):
    """Return a trip that fits for which a claim does not hold, or None if there is none."""
    check_claim(record, claim)
    return _trip_where(record, claim, False)


def sure_stops(record):
    """Return the ascending list of the ticks in which the cab stands in all trips that fit."""
    return [tick for tick in range(len(record)) if record.speeds(tick) == "0"]


def sure_moves(record):
    """Return the ascending list of the ticks in which the cab moves in all trips that fit."""
    speeds = [record.speeds(tick) for tick in range(len(record))]
    return [tick for tick in range(len(record)) if speeds[tick] and "0" not in speeds[tick]]


def way_range(record, begin, end):
    """Return the tuple of the least and the greatest way of trips that fit from one tick to another one, or None."""
    if not is_between(begin, 0, len(record)):
        raise BadTick(begin)
    if not is_between(end, begin, len(record)):
        raise BadTick(end)
    survey = record.survey()
    if not survey.layers()[0]:
        return None
    return least_way(survey, begin, end, 1), -least_way(survey, begin, end, -1)


def paper_of(record, claim):
    """Return a paper that shows that a claim holds for all trips that fit, or None if it does not."""
    check_claim(record, claim)
    survey = record.survey()
    layers = []
    behind = {0: 1}
    for tick in range(len(record) + 1):
        layers.append(_part_where(record, claim, False, tick, survey.kept(tick, behind)))
        if tick < len(record):
            behind = led(layers[-1], _moves_where(record, claim, False, tick))
    if layers[-1]:
        return None
    return [[(count, way) for way, counts in layer.items() for count in counts_in(counts)] for layer in layers]


def is_paper(record, claim, paper):
    """Tell whether a paper shows that a claim holds for all trips that fit."""
    check_claim(record, claim)
    if not _is_list_of_places(record, paper) or paper[-1]:
        return False
    survey = record.survey()
    # The places that are led to: a layer, and a list of those to which places beyond all trips lead.
    layer = {0: 1}
    others = []
    for tick in range(len(record) + 1):
        listed, beyond = _as_layer(paper[tick], MOST_WORTH * (len(record) + tick))
        needed = _part_where(record, claim, False, tick, survey.kept(tick, layer))
        if not _has_all(listed, needed) or not _lists_all(paper[tick], _needed(record, claim, tick, others)):
            return False
        if tick < len(record):
            layer = led(listed, _moves_where(record, claim, False, tick))
            others = _behind(record, claim, tick, beyond)
    return True


def check_claim(record, claim):
    """Raise BadClaim if any value is not a claim about a record."""
    if not _is_claim(record, claim):
        raise BadClaim(claim)


def _is_claim(record, value):
    """Tell whether any value is a claim about a record."""
    if not isinstance(value, tuple) or len(value) != 3:
        return False
    kind, tick, told = value
    if kind == "speed":
        return is_between(tick, 0, len(record) - 1) and is_speeds(told)
    return kind in ("way", "price") and is_between(tick, 0, len(record)) and is_count(told)


def _trip_where(record, claim, holds):
    """Return a trip that fits for which a claim holds, or for which it does not, or None if there is none."""
    survey = record.survey()
    kind, tick, told = claim
    layer = _part_where(record, claim, holds, tick, survey.layers()[tick])
    if kind == "speed":
        layer = leaving(layer, survey.layers()[tick + 1], _moves_where(record, claim, holds, tick))
    place = _first_place(layer)
    if place is None:
        return None
    count, way = place
    front = survey.front_to(tick, count, way)
    if kind == "speed":
        steps = [step for step in survey.onward(tick, count, way) if (str(step[0]) in told) == holds]
        speed, worth = steps[0]
        front += str(speed)
        count += worth
        way += speed
    for trip in survey.trips_on(front, count, way):
        return trip
    return None


def _part_where(record, claim, holds, tick, layer):
    """Return the part of the layer before a tick where a claim holds, or where it does not.

    It is the whole layer if the claim is not about the way or the price before this tick.
    """
    kind, at, least = claim
    if at != tick or kind == "speed":
        return layer
    if kind == "way":
        return {way: counts for way, counts in layer.items() if (way >= least) == holds}
    below = record.survey().counts_below(least)
    parts = {way: counts & ~below if holds else counts & below for way, counts in layer.items()}
    return {way: counts for way, counts in parts.items() if counts}


def _moves_where(record, claim, holds, tick):
    """Return the moves of a tick with the speeds for which a claim holds, or for which it does not.

    They are all moves if the claim is not about the speed in this tick.
    """
    kind, at, speeds = claim
    moves = record.survey().moves(tick)
    if at != tick or kind != "speed":
        return moves
    return [move for move in moves if (str(move[0]) in speeds) == holds]


def _first_place(layer):
    """Return a place (count, way) of a layer, or None if there is none."""
    for way, counts in layer.items():
        # The greatest bit is the one that is read off at once.
        return counts.bit_length() - 1, way
    return None


def _is_list_of_places(record, paper):
    """Tell whether a paper has a list of places for each number of ticks of a record."""
    if not isinstance(paper, list) or len(paper) != len(record) + 1:
        return False
    return all([isinstance(places, list) and all([_is_place(place) for place in places]) for places in paper])


def _is_place(value):
    """Tell whether any value is a tuple of two integers of at least 0."""
    return isinstance(value, tuple) and len(value) == 2 and is_count(value[0]) and is_count(value[1])


def _as_layer(places, most):
    """Return the tuple of a layer with the places whose counts are at most this, and a list of the other places.

    The counts in a paper may be of any size, but those in a layer may not.
    """
    layer = {}
    beyond = []
    for count, way in places:
        if count <= most:
            layer[way] = layer.get(way, 0) | 1 << count
        else:
            beyond.append((count, way))
    return layer, beyond


def _has_all(layer, needed):
    """Tell whether a layer has all places of another one."""
    return all([layer.get(way, 0) & counts == counts for way, counts in needed.items()])


def _lists_all(places, needed):
    """Tell whether a list of places has all of those that are needed."""
    listed = {place: True for place in places} if needed else {}
    return all([place in listed for place in needed])


def _needed(record, claim, tick, places):
    """Return the list of those of the places to which something leads that have to be listed in a paper."""
    ways = _told(record, "passed", tick)
    prices = _told(record, "showed", tick)
    kind, at, least = claim
    needed = []
    for count, way in places:
        price = record.meter.price_at(count)
        claimed = at == tick and (kind == "way" and way >= least or kind == "price" and price >= least)
        agrees = all([way == told for told in ways]) and all([price == told for told in prices])
        if agrees and not claimed:
            needed.append((count, way))
    return needed


def _behind(record, claim, tick, places):
    """Return the list of the different places to which the speeds that count lead from places before a tick."""
    kind, at, claimed = claim
    speeds = [int(digit) for digit in record[tick] if (kind, at) != ("speed", tick) or digit not in claimed]
    jumped = _told(record, "jumped", tick)
    meter = record.meter
    found = {}
    for count, way in places:
        jumps = meter.jumps_at(count)
        worths = meter.worths_behind(jumps)
        for speed in speeds:
            behind = count + worths[speed]
            if all([(meter.jumps_at(behind) > jumps) == told for told in jumped]):
                found[(behind, way + speed)] = True
    return list(found)


def _told(record, kind, tick):
    """Return the list of what the facts of a kind tell about a tick."""
    return [told for of_kind, at, told in record.facts() if (of_kind, at) == (kind, tick)]
