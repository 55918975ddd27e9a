"""Which ways a price can mean, for meters with one table of time and way."""

from cabmeters.errors import BadNumber, BadPrice, BadTicks, BadWay, NotPlain
from cabmeters.integers import is_between, is_count
from cabmeters.tables import MOST_WORTH, both_of, either_of
from cabmeters.trips import TOP_SPEED, check_top

MOST_TICKS = 400
MOST_RATE = 6


class Rates:
    """How ticks with no speed above a greatest one count for the time and for the way.

    The speed of a slow tick does not show: each one adds the time. Each other tick adds a base and, for each
    step, the rate.
    """

    def __init__(self, plain, top):
        either, time, rate = plain
        self._top = top
        self._time = time
        # Without a rate no speed shows, and both kinds of tables are alike.
        self._base = 0 if either or rate == 0 else time
        self._rate = max(1, rate)
        if rate == 0:
            self._slow_top = top
        elif either:
            self._slow_top = min(top, time // rate)
        else:
            self._slow_top = -1

    def splits(self, ticks, low, high):
        """Return the list of the tuples (slow, least, greatest) of the ways in which ticks can count up to this.

        So many ticks are slow, and the other ones have any way from the least to the greatest one, if the sum
        of all worths is from `low` to `high`.
        """
        found = []
        for slow in range(self._most_slow(ticks) + 1):
            rest = self._rest(ticks, slow)
            least, greatest = self._bounds(ticks - slow)
            # The first one is rounded up, the second one down.
            least = max(least, -((rest - low) // self._rate))
            greatest = min(greatest, (high - rest) // self._rate)
            if least <= greatest:
                found.append((slow, least, greatest))
        return found

    def ways(self, ticks, low, high):
        """Return the stretches, in short form, of the ways of trips whose worths have a sum from `low` to `high`."""
        splits = self.splits(ticks, low, high)
        return short_form([(least, greatest + self._slow_way(slow)) for slow, least, greatest in splits])

    def trip(self, ticks, low, high, way):
        """Return a trip with this way whose worths have a sum from `low` to `high`, or None if there is none."""
        for slow, least, greatest in self.splits(ticks, low, high):
            # The more steps the other ticks have, the fewer are left for the slow ones.
            others_way = min(greatest, way)
            if least <= others_way and way - others_way <= self._slow_way(slow):
                return _spread(way - others_way, slow) + _spread(others_way, ticks - slow)
        return None

    def counts(self, ticks, way):
        """Return the list of the different sums of the worths of trips with this way."""
        found = {}
        for slow in range(self._most_slow(ticks) + 1):
            rest = self._rest(ticks, slow)
            least, greatest = self._bounds(ticks - slow)
            for others_way in range(max(least, way - self._slow_way(slow)), min(greatest, way) + 1):
                found[rest + self._rate * others_way] = True
        return list(found)

    def fewest(self, low, high, way, most):
        """Return the least number of ticks, at most so many, of trips with this way and a sum from `low` to `high`.

        It is None if there is no such trip.
        """
        if self._slow_top < 0 or self._slow_top == self._top:
            ticks = self._fewest_alike(low, high, way)
        else:
            ticks = self._fewest_mixed(low, high, way, most)
        return ticks if ticks is not None and ticks <= most else None

    def _fewest_alike(self, low, high, way):
        """Return what `fewest` does, without its bound, if all ticks are slow, or none is."""
        seen = 0 if self._slow_top == self._top else self._rate * way
        # With fewer ticks, the way or the sum is out of reach.
        ticks = max(_over(way, self._top), _over(low - seen, self._time))
        if way > ticks * self._top or not low <= seen + self._time * ticks <= high:
            return None
        return ticks

    def _fewest_mixed(self, low, high, way, most):
        """Return what `fewest` does if some speeds are those of slow ticks, and greater ones are not."""
        # Without a time, slow ticks add nothing at all: a shortest trip has none.
        most_slow = min(most, high // self._time) if self._time > 0 else 0
        fewest = None
        for slow in range(most_slow + 1):
            if fewest is not None and slow >= fewest:
                break
            rest = self._time * slow
            # The others drive what the slow ones cannot, and count what still lacks.
            least = max(0, way - self._slow_way(slow), _over(low - rest, self._rate))
            greatest = min(way, (high - rest) // self._rate)
            others = _over(least, self._top)
            # If these ticks drive too much even at their slowest, more of them do so, too.
            if least <= greatest and others * (self._slow_top + 1) <= greatest:
                fewest = slow + others if fewest is None else min(fewest, slow + others)
        return fewest

    def _most_slow(self, ticks):
        """Return the greatest number of slow ticks."""
        return ticks if self._slow_top >= 0 else 0

    def _slow_way(self, slow):
        """Return the greatest way of so many slow ticks."""
        return slow * self._slow_top

    def _rest(self, ticks, slow):
        """Return what ticks count, so many of them slow, but for the steps of the other ones."""
        return self._time * slow + self._base * (ticks - slow)

    def _bounds(self, others):
        """Return the tuple of the least and the greatest way of so many ticks that are not slow."""
        return others * (self._slow_top + 1), others * self._top


def either_ways(time, way, ticks, count, top=TOP_SPEED):
    """Return the stretches of the ways of trips that have this count by `Table.either(time, way)`."""
    return _ways_of_count((True, time, way), ticks, count, top)


def both_ways(time, way, ticks, count, top=TOP_SPEED):
    """Return the stretches of the ways of trips that have this count by `Table.both(time, way)`."""
    return _ways_of_count((False, time, way), ticks, count, top)


def price_ways(meter, ticks, price, top=TOP_SPEED):
    """Return the stretches of the ways of trips with so many ticks and this price."""
    plain = _plain(meter)
    _check_ticks(ticks)
    _check_price(price)
    check_top(top)
    span = meter.span_of(price)
    if span is None:
        return []
    low, high = span
    return Rates(plain, top).ways(ticks, low, high)


def way_trip(meter, ticks, price, way, top=TOP_SPEED):
    """Return a trip with so many ticks, this way and this price, or None if there is none."""
    plain = _plain(meter)
    _check_ticks(ticks)
    _check_price(price)
    _check_way(way)
    check_top(top)
    return _trip(meter, Rates(plain, top), ticks, price, way)


def way_prices(meter, ticks, way, top=TOP_SPEED):
    """Return the ascending list of the prices of trips with so many ticks and this way."""
    plain = _plain(meter)
    _check_ticks(ticks)
    _check_way(way)
    check_top(top)
    prices = {meter.price_at(count): True for count in Rates(plain, top).counts(ticks, way)}
    return sorted(list(prices))


def least_top(meter, ticks, price, way):
    """Return the least speed that some trip with so many ticks, this way and this price never exceeds, or None."""
    plain = _plain(meter)
    _check_ticks(ticks)
    _check_price(price)
    _check_way(way)
    for top in range(TOP_SPEED + 1):
        if _trip(meter, Rates(plain, top), ticks, price, way) is not None:
            return top
    return None


def least_ticks(meter, price, way, top=TOP_SPEED):
    """Return the least number of ticks of a trip with this way and this price, or None if there is none."""
    plain = _plain(meter)
    _check_price(price)
    _check_way(way)
    check_top(top)
    span = meter.span_of(price)
    if span is None:
        return None
    low, high = span
    return Rates(plain, top).fewest(low, high, way, MOST_TICKS)


def short_form(stretches):
    """Return the list of stretches in short form that means the same integers as a list of stretches."""
    joined = []
    for low, high in sorted(stretches):
        if joined and low <= joined[-1][1] + 1:
            joined[-1] = (joined[-1][0], max(joined[-1][1], high))
        else:
            joined.append((low, high))
    return joined


def _ways_of_count(plain, ticks, count, top):
    """Return the stretches of the ways of trips that have this count by a table of (either, time, way)."""
    _, time, way = plain
    if not is_between(time, 0, MOST_WORTH):
        raise BadNumber(time)
    if not is_between(way, 0, MOST_RATE):
        raise BadNumber(way)
    _check_ticks(ticks)
    if not is_count(count):
        raise BadNumber(count)
    check_top(top)
    return Rates(plain, top).ways(ticks, count, count)


def _plain(meter):
    """Return the tuple (either, time, way) of the one table of a meter."""
    if len(meter.tables) == 1:
        table = meter.tables[0]
        for either, numbers in ((True, either_of(table)), (False, both_of(table))):
            if numbers is not None:
                time, way = numbers
                return either, time, way
    raise NotPlain()


def _trip(meter, rates, ticks, price, way):
    """Return a trip with so many ticks, this way and this price, or None if there is none."""
    span = meter.span_of(price)
    if span is None:
        return None
    low, high = span
    return rates.trip(ticks, low, high, way)


def _over(amount, share):
    """Return the least number of shares that are at least an amount, 0 for an amount below 0 or shares of 0."""
    if amount <= 0 or share == 0:
        return 0
    return -(-amount // share)


def _spread(way, ticks):
    """Return a trip with so many ticks and this way, as even as can be."""
    if ticks == 0:
        return ""
    speed, more = divmod(way, ticks)
    return str(speed) * (ticks - more) + str(speed + 1) * more


def _check_ticks(ticks):
    """Raise BadTicks if any value is not a number of ticks."""
    if not is_between(ticks, 0, MOST_TICKS):
        raise BadTicks(ticks)


def _check_price(price):
    """Raise BadPrice if any value is not a price."""
    if not is_count(price):
        raise BadPrice(price)


def _check_way(way):
    """Raise BadWay if any value is not a way."""
    if not is_count(way):
        raise BadWay(way)
