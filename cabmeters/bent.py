"""Bent meters: what they show, and shortest trips that tell them from right ones."""

from cabmeters.against import priced_steps
from cabmeters.errors import BadFault, BadNumber, TooMany
from cabmeters.graphs import Graph, parting_from
from cabmeters.integers import is_between
from cabmeters.trips import TOP_SPEED, check_top, check_trip

FAULTS = ("lost", "twice", "idle")
LEAST_NUMBER = 2
MOST_NUMBER = 9
MOST_STANDS = 120


class Bent:
    """A meter that does not count each step once, or each tick."""

    def __init__(self, meter, fault, number):
        if fault not in FAULTS:
            raise BadFault(fault)
        if not is_between(number, LEAST_NUMBER, MOST_NUMBER):
            raise BadNumber(number)
        self._meter = meter
        self._fault = fault
        self._number = number

    @property
    def meter(self):
        """The right meter."""
        return self._meter

    @property
    def fault(self):
        """What is wrong: "lost", "twice" or "idle"."""
        return self._fault

    @property
    def number(self):
        """The number of whose multiples the steps or ticks count wrongly."""
        return self._number

    def prices(self, trip):
        """Return the list of the prices that it shows before each tick, and last behind all ticks."""
        check_trip(trip)
        meter = self._meter
        count = 0
        since = 0
        prices = [meter.price_at(0)]
        for digit in trip:
            speed, since = self.taken(since, int(digit))
            if speed is not None:
                count += meter.worths_behind(meter.jumps_at(count))[speed]
            prices.append(meter.price_at(count))
        return prices

    def __call__(self, trip):
        """Return the price that it shows behind a trip."""
        return self.prices(trip)[-1]

    def taken(self, since, speed):
        """Return the tuple (taken, since) of the speed that the meter takes for a tick, None if it counts nothing.

        `since` is the number of steps or ticks since the last one that counts wrongly: before the tick, and behind.
        """
        if self._fault == "idle":
            behind = (since + 1) % self._number
            return (None if behind == 0 else speed), behind
        wrong, behind = divmod(since + speed, self._number)
        if self._fault == "lost":
            return speed - wrong, behind
        return min(speed + wrong, TOP_SPEED), behind


def telling_trip(one, other, top=TOP_SPEED):
    """Return a shortest trip behind which two meters show different prices, or None if there is none."""
    _check(top, [one, other])
    return _telling(one, other, top)


def hidden_pairs(one, other, top=TOP_SPEED):
    """Return the ascending list of the pairs of stands behind all trips if no trip tells two meters apart, or None."""
    _check(top, [one, other])
    if _telling(one, other, top) is not None:
        return None
    ahead = _steps(one, top)
    other_ahead = _steps(other, top)
    graph = Graph([(_start(one), _start(other))], lambda pair: [
        ((step[0], other_step[0]), 0) for step, other_step in zip(ahead(pair[0]), other_ahead(pair[1]))])
    return sorted(graph.nodes())


def telling_list(meters, top=TOP_SPEED):
    """Return a dict from the places (i, j) of each two of some meters to a trip that tells them apart, or None."""
    _check(top, meters)
    return {(at, behind): _telling(meters[at], meters[behind], top)
            for behind in range(len(meters)) for at in range(behind)}


def faults_that_show(meter, prices, trip):
    """Return the list of the tuples (fault, number) of all bent meters that show just these prices for a trip."""
    check_trip(trip)
    return [(fault, number) for fault in FAULTS for number in range(LEAST_NUMBER, MOST_NUMBER + 1)
            if Bent(meter, fault, number).prices(trip) == prices]


def _check(top, meters):
    """Raise BadTop, or TooMany if one of some right and bent meters has too many stands."""
    check_top(top)
    for meter in meters:
        if len(_right(meter).ahead(TOP_SPEED)) > MOST_STANDS:
            raise TooMany()


def _telling(one, other, top):
    """Return a shortest trip behind which two meters show different prices, or None if there is none."""
    if _right(one).flag != _right(other).flag:
        return ""
    return parting_from(_start(one), _start(other), _steps(one, top), _steps(other, top))


def _right(meter):
    """Return the right one of a meter that may be bent."""
    return meter.meter if isinstance(meter, Bent) else meter


def _start(meter):
    """Return the stand at the beginning of a right or bent meter."""
    return (meter.meter.start, 0) if isinstance(meter, Bent) else meter.start


def _steps(meter, top):
    """Return the function from a stand of a right or bent meter to the list of the tuples (stand, gain) behind it."""
    if not isinstance(meter, Bent):
        return priced_steps(meter, top)
    # A bent meter can take greater speeds than those that are driven.
    ahead = priced_steps(meter.meter, TOP_SPEED)
    return lambda stand: _bent_steps(meter, stand, ahead(stand[0]), top)


def _bent_steps(bent, stand, steps, top):
    """Return the list of the tuples (stand, gain) behind a tick of a bent meter, from those of the right one."""
    found = []
    for speed in range(top + 1):
        taken, since = bent.taken(stand[1], speed)
        behind, gain = (stand[0], 0) if taken is None else steps[taken]
        found.append(((behind, since), gain))
    return found
