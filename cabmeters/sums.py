"""The greatest sums of worths that trips that fit can have, with any worths for each tick and speed.

All sums that are still to be gained from the places with one way are the lanes of one integer, one lane for each
count. So all of them move at once, and the greater ones of two such integers are found for all counts at once.
"""

from cabmeters.places import bits


class Lanes:
    """Integers with a lane for each count up to a greatest one. The highest bit of each lane is free."""

    def __init__(self, most, digits):
        self._digits = digits
        self._width = 4 * digits
        self._counts = bits(0, most)
        self._known = {}
        self._ones = self._spread(self._counts, "1")
        self._guards = self._ones << (self._width - 1)

    def all_with(self, number):
        """Return the integer with a number in each lane."""
        return self._ones * number

    def only(self, lanes, counts):
        """Return the lanes of some counts, with 0 in the others."""
        counts = counts & self._counts
        if counts == self._counts:
            return lanes
        if counts not in self._known:
            self._known[counts] = self._spread(counts, "f")
        return lanes & self._known[counts]

    def behind(self, lanes, worth):
        """Return the lanes moved to the counts that are less by a worth."""
        return lanes >> (self._width * worth)

    def greater(self, lanes, others):
        """Return the integer with the greater one of two numbers in each lane."""
        # The free bits tell in which lanes the first number is at least the second one.
        told = ((lanes | self._guards) - others) & self._guards
        chosen = told - (told >> (self._width - 1))
        return others ^ ((lanes ^ others) & chosen)

    def at(self, lanes, count):
        """Return the number in one lane."""
        return lanes >> (self._width * count) & ((1 << self._width) - 1)

    def _spread(self, counts, digit):
        """Return the integer with 0 or, in the lanes of some counts, either 1 or the greatest number."""
        set_lane = digit * self._digits if digit == "f" else digit.zfill(self._digits)
        # Both are written with other signs first, as the digit of one may stand in the other.
        text = f"{counts:b}".replace("0", "-").replace("1", set_lane).replace("-", "0" * self._digits)
        return int(text, 16)


def greatest_sum(survey, worths):
    """Return the tuple (sum, trip) of a trip that fits with the greatest sum of worths. A trip has to fit."""
    # Lanes hold no numbers below 0, so that each gain is what is above the least worth in its tick.
    gains = [[worth - min(row) for worth in row] for row in worths]
    # What cannot go on to the end gains less than this in all, what can has this at the end already.
    base = sum([max(row) for row in gains]) + 1
    last = max([counts.bit_length() for counts in survey.layers()[-1].values()]) - 1
    lanes = Lanes(last, (2 * base).bit_length() // 4 + 1)
    ticks = survey.ticks()
    ways = list(survey.layers()[ticks]) if _told_apart(survey, ticks) else [0]
    sums = [{way: lanes.only(lanes.all_with(base), survey.shown(ticks)) for way in ways}]
    for tick in range(ticks - 1, -1, -1):
        sums.append(_sums_before(survey, tick, gains[tick], sums[-1], lanes))
    trip = _trip_along(survey, gains, sums[::-1], lanes)
    return sum([row[int(digit)] for digit, row in zip(trip, worths)]), trip


def _told_apart(survey, tick):
    """Tell whether the ways before a tick are told apart: later ones have no effect on what follows."""
    return tick <= survey.last_passed()


def _sums_before(survey, tick, gains, behind, lanes):
    """Return a dict from the ways before a tick to the greatest sums from there on, from that for the next tick."""
    added = {gain: lanes.all_with(gain) for gain in gains}
    apart = _told_apart(survey, tick + 1)
    sums = {}
    for way in list(survey.layers()[tick]) if _told_apart(survey, tick) else [0]:
        greatest = 0
        for speed, worth, counts in survey.moves(tick):
            following = behind.get(way + speed if apart else 0, 0)
            if following > 0:
                moved = lanes.only(lanes.behind(following, worth), counts) + added[gains[speed]]
                greatest = lanes.greater(greatest, moved)
        sums[way] = lanes.only(greatest, survey.shown(tick))
    return sums


def _trip_along(survey, gains, sums, lanes):
    """Return a trip that fits and always gains the greatest sum that is still to be gained."""
    trip = ""
    count = 0
    way = 0
    for tick in range(survey.ticks()):
        behind = sums[tick + 1]
        apart = _told_apart(survey, tick + 1)
        steps = [(lanes.at(behind[way + speed if apart else 0], count + worth) + gains[tick][speed], speed, worth)
                 for speed, worth in survey.onward(tick, count, way)]
        _, speed, worth = max(steps)
        trip += str(speed)
        count += worth
        way += speed
    return trip
