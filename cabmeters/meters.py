"""Meters: what a trip counts, when the price jumps, and in which stand a trip leaves a meter."""

from cabmeters.errors import BadNumber, BadSpeed, BadStand, BadTables, BadText, BadTurns
from cabmeters.integers import is_between, is_count, is_whole, number_in
from cabmeters.tables import Table, worths_in
from cabmeters.trips import TOP_SPEED, check_top, check_trip, is_speed

MOST_COUNTS = 60
MOST_FLAG = 1000
MOST_EACH = 100
MOST_TABLES = 3
# The names of the numbers in the first line of the text of a meter.
NAMES = ("first", "drop", "flag", "each")


class Meter:
    """A taximeter, whose price jumps whenever its count is full."""

    def __init__(self, first, drop, tables, turns=(), *, flag=0, each=1):
        _check_number(first, 1, MOST_COUNTS)
        _check_number(drop, 1, MOST_COUNTS)
        if not _is_tables(tables):
            raise BadTables(tables)
        if not _is_turns(turns, len(tables) - 1):
            raise BadTurns(turns)
        _check_number(flag, 0, MOST_FLAG)
        _check_number(each, 1, MOST_EACH)
        self._first = first
        self._drop = drop
        self._tables = tuple(tables)
        self._turns = tuple(turns)
        self._flag = flag
        self._each = each
        self._rows = tuple([tuple(table.worths) for table in tables])
        self._known_stands = None

    @property
    def first(self):
        """The number of counts to the first jump."""
        return self._first

    @property
    def drop(self):
        """The number of counts from each jump to the next one."""
        return self._drop

    @property
    def tables(self):
        """The tuple of the tables."""
        return self._tables

    @property
    def turns(self):
        """The tuple of the turns: the numbers of jumps from which on the next table holds."""
        return self._turns

    @property
    def flag(self):
        """The price at the beginning."""
        return self._flag

    @property
    def each(self):
        """What each jump adds to the price."""
        return self._each

    @property
    def start(self):
        """The stand of the empty trip."""
        return 0, self._first

    def same(self, other):
        """Tell whether another meter has the same numbers, turns and worths."""
        return self.text() == other.text()

    def count(self, trip):
        """Return the count of a trip."""
        return self.counts(trip)[-1]

    def counts(self, trip):
        """Return the list of the counts before each tick, and last behind all ticks."""
        check_trip(trip)
        counts = [0]
        for digit in trip:
            worths = self.worths_behind(self.jumps_at(counts[-1]))
            counts.append(counts[-1] + worths[int(digit)])
        return counts

    def __call__(self, trip):
        """Return the price behind a trip."""
        return self.price_at(self.count(trip))

    def prices(self, trip):
        """Return the list of the prices before each tick, and last behind all ticks."""
        return [self.price_at(count) for count in self.counts(trip)]

    def jumps(self, trip):
        """Return the list of the tuples (tick, number of jumps) of the ticks in which the price jumps."""
        behind = [self.jumps_at(count) for count in self.counts(trip)]
        many = [behind[tick + 1] - behind[tick] for tick in range(len(trip))]
        return [(tick, number) for tick, number in enumerate(many) if number > 0]

    def price_at(self, count):
        """Return the price of a count."""
        if not is_count(count):
            raise BadNumber(count)
        return self._flag + self._each * self.jumps_at(count)

    def stand(self, trip):
        """Return the stand behind a trip."""
        count = self.count(trip)
        jumps = self.jumps_at(count)
        return self._stage_behind(jumps), self._first + self._drop * jumps - count

    def stands(self, top=TOP_SPEED):
        """Return the ascending list of the stands behind all trips with no speed above `top`."""
        check_top(top)
        return sorted(list(self.ahead(top)))

    def after(self, stand, speed):
        """Return the tuple (stand, jumps) of the stand behind one more tick, and of the jumps in it."""
        known = self._known_stands
        if known is None:
            known = {behind: True for behind in self.ahead(TOP_SPEED)}
        if not _is_pair(stand) or stand not in known:
            raise BadStand(stand)
        if not is_speed(speed):
            raise BadSpeed(speed)
        # They are kept, as callers go from stand to stand, but only here: a call with an error changes nothing.
        self._known_stands = known
        return self._step(stand, speed)

    def text(self):
        """Return the text of the meter."""
        lines = [f"first {self._first} drop {self._drop} flag {self._flag} each {self._each}", self._tables[0].text()]
        for turn, table in zip(self._turns, self._tables[1:]):
            lines.append(f"behind {turn}")
            lines.append(table.text())
        return "\n".join(lines)

    @classmethod
    def read(cls, text):
        """Return the meter with this text."""
        if not isinstance(text, str):
            raise BadText(text)
        lines = text.split("\n")
        numbers = _numbers_in(lines[0])
        rows = [worths_in(line) for line in lines[1::2]]
        turns = [_turn_in(line) for line in lines[2::2]]
        if numbers is None or None in rows or len(rows) > MOST_TABLES or not _is_turns(turns, len(rows) - 1):
            raise BadText(text)
        first, drop, flag, each = numbers
        return cls(first, drop, [Table(worths) for worths in rows], turns, flag=flag, each=each)

    def ahead(self, top):
        """Return a dict from the stands behind trips with no speed above `top` to what follows there.

        This is a list of the tuples (stand, jumps) of a tick with each speed up to `top`, as `after` returns them.
        """
        found = {}
        waiting = [self.start]
        while waiting:
            stand = waiting.pop()
            if stand not in found:
                found[stand] = [self._step(stand, speed) for speed in range(top + 1)]
                waiting.extend([behind for behind, _ in found[stand]])
        return found

    def jumps_at(self, count):
        """Return the number of jumps of a count."""
        if count < self._first:
            return 0
        return 1 + (count - self._first) // self._drop

    def worths_behind(self, jumps):
        """Return the tuple of the worths that hold behind so many jumps."""
        return self._rows[len([turn for turn in self._turns if turn <= jumps])]

    def scales(self):
        """Return the list of the tuples (count, worths) of the counts from which on these worths hold."""
        begins = [0] + [self._first + (turn - 1) * self._drop for turn in self._turns]
        return list(zip(begins, self._rows))

    def span_of(self, price):
        """Return the tuple of the least and the greatest count with this price, or None if there is none."""
        jumps, rest = divmod(price - self._flag, self._each)
        if jumps < 0 or rest > 0:
            return None
        end = self._first + jumps * self._drop
        return (end - self._drop if jumps > 0 else 0), end - 1

    def count_for(self, price):
        """Return the least count whose price is at least this one."""
        if price <= self._flag:
            return 0
        # The needed number of jumps is rounded up.
        jumps = -((self._flag - price) // self._each)
        return self._first + (jumps - 1) * self._drop

    def _stage_behind(self, jumps):
        """Return the stage of a stand behind so many jumps."""
        return min(jumps, self._turns[-1]) if self._turns else 0

    def _step(self, stand, speed):
        """Return the tuple (stand, jumps) behind a tick, for a stand and a speed that are known to be such."""
        stage, left = stand
        worth = self.worths_behind(stage)[speed]
        if worth < left:
            return (stage, left - worth), 0
        jumps, rest = divmod(worth - left, self._drop)
        return (self._stage_behind(stage + jumps + 1), self._drop - rest), jumps + 1


def _check_number(number, least, most):
    """Raise BadNumber if any value is not an integer from `least` to `most`."""
    if not is_between(number, least, most):
        raise BadNumber(number)


def _is_tables(value):
    """Tell whether any value is a list of tables for a meter."""
    if not isinstance(value, list) or not 1 <= len(value) <= MOST_TABLES:
        return False
    return all([isinstance(table, Table) for table in value])


def _is_turns(value, many):
    """Tell whether any value is a list or a tuple of so many turns."""
    if not isinstance(value, (list, tuple)) or len(value) != many:
        return False
    if not all([is_between(turn, 1, TOP_SPEED) for turn in value]):
        return False
    return all([value[at] < value[at + 1] for at in range(many - 1)])


def _is_pair(value):
    """Tell whether any value is a tuple of two integers."""
    return isinstance(value, tuple) and len(value) == 2 and is_whole(value[0]) and is_whole(value[1])


def _numbers_in(line):
    """Return the list of the four numbers in the first line of the text of a meter, or None if there are none."""
    words = line.split(" ")
    if len(words) != 2 * len(NAMES) or words[::2] != list(NAMES):
        return None
    least = (1, 1, 0, 1)
    most = (MOST_COUNTS, MOST_COUNTS, MOST_FLAG, MOST_EACH)
    numbers = [number_in(word, high) for word, high in zip(words[1::2], most)]
    right = [is_between(number, low, high) for number, low, high in zip(numbers, least, most)]
    return numbers if all(right) else None


def _turn_in(line):
    """Return the turn in a line such as "behind 2", or None if it is not such a line."""
    word, _, turn = line.partition(" ")
    return number_in(turn, TOP_SPEED) if word == "behind" else None
