"""The greatest sums of worths that trips that fit can have, with any worths for each tick and speed.

All sums that are still to be gained from the places with one way are the lanes of one integer, one lane for each
count. So all of them move at once, and the greater ones of two such integers are found for all counts at once.
"""

from cabmeters.lanes import Lanes


def greatest_sum(survey, worths):
    """Return the tuple (sum, trip) of a trip that fits with the greatest sum of worths. A trip has to fit."""
    # Lanes hold no numbers below 0, so that each gain is what is above the least worth in its tick.
    gains = [[worth - min(row) for worth in row] for row in worths]
    # What cannot go on to the end gains less than this in all, what can has this at the end already.
    base = sum([max(row) for row in gains]) + 1
    digits = (2 * base).bit_length() // 4 + 1
    ticks = survey.ticks()
    ways = list(survey.layers()[ticks]) if _told_apart(survey, ticks) else [0]
    lanes = _lanes_before(survey, ticks, digits)
    sums = [{way: lanes.only(lanes.all_with(base), survey.shown(ticks)) for way in ways}]
    for tick in range(ticks - 1, -1, -1):
        sums.append(_sums_before(survey, tick, gains[tick], sums[-1], _lanes_before(survey, tick, digits)))
    trip = _trip_along(survey, gains, sums[::-1], lanes)
    return sum([row[int(digit)] for digit, row in zip(trip, worths)]), trip


def _lanes_before(survey, tick, digits):
    """Return the lanes for all counts that trips can have before a tick."""
    most = max([counts.bit_length() for counts in survey.layers()[tick].values()]) - 1
    return Lanes(most, digits)


def _told_apart(survey, tick):
    """Tell whether the ways before a tick are told apart: later ones have no effect on what follows."""
    return tick <= survey.last_passed()


def _sums_before(survey, tick, gains, behind, lanes):
    """Return a dict from the ways before a tick to the greatest sums from there on, from that for the next tick."""
    added = {gain: lanes.all_with(gain) for gain in gains}
    apart = _told_apart(survey, tick + 1)
    sums = {}
    for way in list(survey.layers()[tick]) if _told_apart(survey, tick) else [0]:
        greatest = 0
        for speed, worth, counts in survey.moves(tick):
            following = behind.get(way + speed if apart else 0, 0)
            if following > 0:
                moved = lanes.only(lanes.behind(following, worth), counts) + added[gains[speed]]
                greatest = lanes.greater(greatest, moved)
        sums[way] = lanes.only(greatest, survey.shown(tick))
    return sums


def _trip_along(survey, gains, sums, lanes):
    """Return a trip that fits and always gains the greatest sum that is still to be gained."""
    trip = ""
    count = 0
    way = 0
    for tick in range(survey.ticks()):
        behind = sums[tick + 1]
        apart = _told_apart(survey, tick + 1)
        steps = [(lanes.at(behind[way + speed if apart else 0], count + worth) + gains[tick][speed], speed, worth)
                 for speed, worth in survey.onward(tick, count, way)]
        _, speed, worth = max(steps)
        trip += str(speed)
        count += worth
        way += speed
    return trip
