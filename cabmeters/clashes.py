"""Which facts cannot all be true, which are needless, what a look can tell, and worths of trips that fit."""

from cabmeters.errors import BadNumber, BadTold, BadWorths
from cabmeters.flows import Flow
from cabmeters.integers import is_between, is_whole
from cabmeters.records import record_with
from cabmeters.sums import greatest_sum
from cabmeters.trips import TOP_SPEED


def record_of(record, numbers):
    """Return a new record that was told the facts with these numbers alone, in this order."""
    facts = record.facts()
    for number in numbers:
        if not is_between(number, 0, len(facts) - 1):
            raise BadNumber(number)
    return record_with(record.meter, len(record), record.top, [facts[number] for number in numbers])


def fewest_clash(record):
    """Return the first list of as few numbers as possible of facts that cannot all be true, None if a trip fits."""
    if record.any_trip() is not None:
        return None
    many = len(record.facts())
    alone = [record_of(record, [number]) for number in range(many)]
    # For trips that are known, a list that tells which of the facts hold for it.
    known = []
    choices = [[]]
    while choices:
        for numbers in choices:
            if not any([all([holds[number] for number in numbers]) for holds in known]):
                trip = record_of(record, numbers).any_trip()
                if trip is None:
                    return numbers
                known.append([single.fits(trip) for single in alone])
        choices = _longer_choices(choices, many)
    return None


def needless_facts(record):
    """Return the ascending list of the numbers of the facts without which, each for itself, the same trips fit."""
    numbers = list(range(len(record.facts())))
    return [number for number in numbers if _is_needless(record, number, numbers)]


def kept_facts(record):
    """Return the ascending list of the numbers of the facts that are left if needless ones are left out in turn."""
    kept = list(range(len(record.facts())))
    for number in kept[::-1]:
        if _is_needless(record, number, kept):
            kept = [other for other in kept if other != number]
    return kept


def look_numbers(record, look):
    """Return a dict from what a look can tell to the numbers of the trips that fit and have it."""
    if not _is_look(record, look):
        raise BadTold(look)
    survey = record.survey()
    if not survey.layers()[0]:
        return {}
    return _numbers(record, Flow(survey), look)


def best_look(record):
    """Return the tuple (look, worst) of the first look whose greatest number is least, or None if no trip fits."""
    survey = record.survey()
    if not survey.layers()[0]:
        return None
    flow = Flow(survey)
    ticks = len(record)
    total = flow.total()
    worst = total
    found = {}
    for tick in range(ticks + 1):
        # What is told of ways and prices comes first, as it mostly makes it needless to look at the speeds.
        looks = [("price", _most_prices(record.meter, flow.counts(tick))), ("way", len(survey.layers()[tick]))]
        if tick < ticks:
            looks.append(("speed", len(record[tick])))
        for kind, many in looks:
            # The greatest one of so many numbers is at least their mean.
            if total <= worst * many:
                found[(kind, tick)] = max(list(_numbers(record, flow, (kind, tick)).values()))
                worst = min(worst, found[(kind, tick)])
    order = [(kind, tick) for kind in ("speed", "way", "price") for tick in range(ticks + 1)]
    best = [look for look in order if found.get(look, total + 1) == worst]
    return best[0], worst


def least_worth(record, worths):
    """Return the tuple (sum, trip) of a trip that fits with the least sum of worths, or None if no trip fits."""
    _check_worths(record, worths)
    found = _greatest(record, [[-worth for worth in row] for row in worths])
    if found is None:
        return None
    amount, trip = found
    return -amount, trip


def greatest_worth(record, worths):
    """Return the tuple (sum, trip) of a trip that fits with the greatest sum of worths, or None if no trip fits."""
    _check_worths(record, worths)
    return _greatest(record, worths)


def _longer_choices(choices, many):
    """Return the list, in order, of all ascending lists of numbers below this one, from those that are one shorter."""
    longer = []
    for numbers in choices:
        least = numbers[-1] + 1 if numbers else 0
        longer.extend([numbers + [number] for number in range(least, many)])
    return longer


def _is_needless(record, number, numbers):
    """Tell whether all trips that fit the other facts with these numbers fit the fact with this one, too."""
    others = record_of(record, [other for other in numbers if other != number])
    kind, tick, told = record.facts()[number]
    if kind == "speeds":
        return all([digit in told for digit in others.speeds(tick)])
    if kind == "passed":
        return all([way == told for way in others.ways(tick)])
    if kind == "showed":
        return all([price == told for price in others.prices(tick)])
    others.jumped(tick, not told)
    return others.any_trip() is None


def _is_look(record, value):
    """Tell whether any value is a look of a record."""
    if not isinstance(value, tuple) or len(value) != 2:
        return False
    kind, tick = value
    if kind == "speed":
        return is_between(tick, 0, len(record) - 1)
    return kind in ("way", "price") and is_between(tick, 0, len(record))


def _numbers(record, flow, look):
    """Return a dict from what a look can tell to the numbers of the trips that fit and have it. A trip has to fit."""
    kind, tick = look
    if kind == "speed":
        return flow.speed_numbers(tick)
    if kind == "way":
        return flow.way_numbers(tick)
    numbers = {}
    for count, number in flow.count_numbers(tick).items():
        price = record.meter.price_at(count)
        numbers[price] = numbers.get(price, 0) + number
    return numbers


def _most_prices(meter, counts):
    """Return a number that no number of different prices of counts from the least to the greatest one is above."""
    least, greatest = counts
    return meter.jumps_at(greatest) - meter.jumps_at(least) + 1


def _check_worths(record, worths):
    """Raise BadWorths if any value is not a list of ten worths for each tick of a record."""
    if not isinstance(worths, list) or len(worths) != len(record) or not all([_is_row(row) for row in worths]):
        raise BadWorths(worths)


def _is_row(value):
    """Tell whether any value is a list of ten integers."""
    return isinstance(value, list) and len(value) == TOP_SPEED + 1 and all([is_whole(worth) for worth in value])


def _greatest(record, worths):
    """Return the tuple (sum, trip) of a trip that fits with the greatest sum of worths, or None if no trip fits."""
    survey = record.survey()
    if not survey.layers()[0]:
        return None
    return greatest_sum(survey, worths)
