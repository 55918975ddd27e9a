"""Records of trips: what is known of a trip with a meter aboard, and all trips that fit it."""

from cabmeters.errors import BadPrice, BadSpeeds, BadTick, BadTicks, BadTold, BadWay
from cabmeters.integers import is_between, is_count
from cabmeters.places import Survey, counts_in
from cabmeters.tallies import all_counts, number_of_trips
from cabmeters.trips import TOP_SPEED, check_top, check_trip, is_speeds, ways_of

MOST_TICKS = 40
DIGITS = "0123456789"


class Trial:
    """A `with` block at whose end a record knows what it knew when the block began."""

    def __init__(self, record):
        self._held = record
        self._left = ()
        self._facts = ()
        self._survey = None

    def __enter__(self):
        self._left, self._facts, self._survey = self._held.known()
        return self._held

    def __exit__(self, kind, value, trace):
        record = self._held
        record._left = self._left
        record._facts = self._facts
        record._survey = self._survey


class Record:
    """What is known of a trip of so many ticks with a meter aboard."""

    def __init__(self, meter, ticks, top=TOP_SPEED):
        if not is_between(ticks, 0, MOST_TICKS):
            raise BadTicks(ticks)
        check_top(top)
        self._meter = meter
        self._top = top
        # These two are never changed in place, so that a trial can keep them as they are.
        self._left = (DIGITS[:top + 1],) * ticks
        self._facts = ()
        # The survey of what is known now, or None until it is asked for.
        self._survey = None

    def __len__(self):
        """Return the number of ticks."""
        return len(self._left)

    @property
    def meter(self):
        """The meter aboard."""
        return self._meter

    @property
    def top(self):
        """The greatest speed that the trip can have."""
        return self._top

    def __getitem__(self, at):
        """Return the digits that are left for the speed of a tick by what was told about it alone."""
        self.check_tick(at)
        return self._left[at]

    def __setitem__(self, at, worth):
        """Tell that the speed of a tick is one of some digits."""
        self.only(at, worth)

    def __iter__(self):
        raise TypeError("a record is not iterated over")

    def only(self, tick, speeds):
        """Tell that the speed of a tick is one of some digits."""
        self.check_tick(tick)
        if not is_speeds(speeds):
            raise BadSpeeds(speeds)
        left = "".join([digit for digit in self._left[tick] if digit in speeds])
        self._tell("speeds", tick, "".join(sorted(speeds)))
        self._left = self._left[:tick] + (left,) + self._left[tick + 1:]

    def passed(self, tick, way):
        """Tell the way directly before a tick."""
        self.check_place(tick)
        if not is_count(way):
            raise BadWay(way)
        self._tell("passed", tick, way)

    def showed(self, tick, price):
        """Tell the price directly before a tick."""
        self.check_place(tick)
        if not is_count(price):
            raise BadPrice(price)
        self._tell("showed", tick, price)

    def jumped(self, tick, told):
        """Tell whether the price jumps in a tick."""
        self.check_tick(tick)
        if told is not True and told is not False:
            raise BadTold(told)
        self._tell("jumped", tick, told)

    def facts(self):
        """Return the list of the facts, in the order in which they were told."""
        return list(self._facts)

    def fits(self, trip):
        """Tell whether a trip fits."""
        check_trip(trip)
        if len(trip) != len(self._left) or not all([digit in left for digit, left in zip(trip, self._left)]):
            return False
        ways = ways_of(trip)
        prices = self._meter.prices(trip)
        for kind, tick, told in self._facts:
            if kind == "passed" and ways[tick] != told:
                return False
            if kind == "showed" and prices[tick] != told:
                return False
            if kind == "jumped" and (prices[tick] < prices[tick + 1]) != told:
                return False
        return True

    def how_many(self):
        """Return the number of the trips that fit."""
        return number_of_trips(self.survey())

    def trips(self):
        """Yield all trips that fit, in ascending order."""
        survey = self.survey()
        if survey.layers()[0]:
            yield from survey.trips_on("", 0, 0)

    def any_trip(self):
        """Return a trip that fits, or None if there is none."""
        for trip in self.trips():
            return trip
        return None

    def ways(self, tick):
        """Return the ascending list of the ways directly before a tick in trips that fit."""
        self.check_place(tick)
        return sorted(list(self.survey().layers()[tick]))

    def prices(self, tick):
        """Return the ascending list of the prices directly before a tick in trips that fit."""
        self.check_place(tick)
        counts = counts_in(all_counts(self.survey().layers()[tick]))
        prices = {self._meter.price_at(count): True for count in counts}
        return sorted(list(prices))

    def speeds(self, tick):
        """Return the ascending string of the speeds that trips that fit have in a tick."""
        self.check_tick(tick)
        return "".join([str(speed) for speed in self.survey().speeds(tick)])

    def trial(self):
        """Return an object for a `with` block at whose end all is forgotten that was told in it."""
        return Trial(self)

    def tried(self, deed):
        """Return what a function returns for this record, and forget what it told."""
        with self.trial() as held:
            return deed(held)

    def known(self):
        """Return the tuple of all that a trial has to keep."""
        return self._left, self._facts, self._survey

    def survey(self):
        """Return the survey of all that is known."""
        if self._survey is None:
            self._survey = Survey(self._meter, self._left, self._facts)
        return self._survey

    def check_tick(self, tick):
        """Raise BadTick if any value is not the number of a tick."""
        if not is_between(tick, 0, len(self._left) - 1):
            raise BadTick(tick)

    def check_place(self, tick):
        """Raise BadTick if any value is neither the number of a tick nor the number of all ticks."""
        if not is_between(tick, 0, len(self._left)):
            raise BadTick(tick)

    def take(self, fact):
        """Tell a fact that is written as in the list of the facts."""
        kind, tick, told = fact
        if kind == "speeds":
            self.only(tick, told)
        elif kind == "passed":
            self.passed(tick, told)
        elif kind == "showed":
            self.showed(tick, told)
        else:
            self.jumped(tick, told)

    def _tell(self, kind, tick, told):
        """Add a fact."""
        self._facts = self._facts + ((kind, tick, told),)
        self._survey = None


def record_with(meter, ticks, top, facts):
    """Return a new record that was told a list of facts."""
    record = Record(meter, ticks, top)
    for fact in facts:
        record.take(fact)
    return record
