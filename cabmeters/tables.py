"""Tables of worths: by how much a tick adds to the count of a meter."""

from cabmeters.errors import BadNumber, BadSpeed, BadText, BadWorths
from cabmeters.integers import is_between, is_count, number_in
from cabmeters.trips import TOP_SPEED, check_trip, is_speed

MOST_WORTH = 60


class Table:
    """The worth of a tick for each speed."""

    def __init__(self, worths):
        if not _is_worths(worths):
            raise BadWorths(worths)
        self._worths = tuple(worths)

    @property
    def worths(self):
        """The list of the ten worths."""
        return list(self._worths)

    def __getitem__(self, at):
        """Return the worth of a speed."""
        if not is_speed(at):
            raise BadSpeed(at)
        return self._worths[at]

    def __iter__(self):
        raise TypeError("a table is not iterated over")

    def same(self, other):
        """Tell whether another table has the same worths."""
        return self.worths == other.worths

    def text(self):
        """Return the text of the table."""
        return " ".join([str(worth) for worth in self._worths])

    @classmethod
    def either(cls, time, way):
        """Return the table that counts for the time or for the way, whichever is more."""
        _check_numbers(time, way)
        return cls(either_worths(time, way))

    @classmethod
    def both(cls, time, way):
        """Return the table that counts for the time and for the way."""
        _check_numbers(time, way)
        return cls(both_worths(time, way))

    @classmethod
    def changing(cls, time, way, speed):
        """Return the table that counts for the time below a speed, and for the way from it on."""
        _check_numbers(time, way)
        if not is_speed(speed):
            raise BadSpeed(speed)
        return cls([time if at < speed else way * at for at in range(TOP_SPEED + 1)])

    @classmethod
    def read(cls, text):
        """Return the table with this text."""
        worths = worths_in(text) if isinstance(text, str) else None
        if worths is None:
            raise BadText(text)
        return cls(worths)


def worths_in(text):
    """Return the list of the worths of the table with this text, a string, or None if there is none."""
    worths = [number_in(word, MOST_WORTH) for word in text.split(" ")]
    return worths if _is_worths(worths) else None


def either_worths(time, way):
    """Return the list of the worths of `Table.either`, of any size."""
    return [max(time, way * speed) for speed in range(TOP_SPEED + 1)]


def both_worths(time, way):
    """Return the list of the worths of `Table.both`, of any size."""
    return [time + way * speed for speed in range(TOP_SPEED + 1)]


def either_of(table):
    """Return the tuple (time, way) with the least way that makes this table by `Table.either`, or None."""
    return _numbers_of(table, either_worths)


def both_of(table):
    """Return the tuple (time, way) that makes this table by `Table.both`, or None."""
    return _numbers_of(table, both_worths)


def count_of(table, trip):
    """Return the sum of the worths of all ticks of a trip."""
    check_trip(trip)
    worths = table.worths
    return sum([worths[int(digit)] for digit in trip])


def _numbers_of(table, worths_by):
    """Return the tuple (time, way) with the least way for which `worths_by` makes these worths, or None."""
    # In both kinds of tables, the worth of the speed 0 is the time, whatever the way is.
    time = table[0]
    # With a greater way, the worth of the greatest speed would be too great.
    for way in range(MOST_WORTH // TOP_SPEED + 1):
        if worths_by(time, way) == table.worths:
            return time, way
    return None


def _is_worths(value):
    """Tell whether any value is a list of ten worths."""
    if not isinstance(value, list) or len(value) != TOP_SPEED + 1:
        return False
    return all([is_between(worth, 0, MOST_WORTH) for worth in value])


def _check_numbers(time, way):
    """Raise BadNumber for the first one that is not an integer of at least 0."""
    if not is_count(time):
        raise BadNumber(time)
    if not is_count(way):
        raise BadNumber(way)
