"""Values of all kinds for the tests: what "any value" can be where a point says so."""

import random

from cabmeters.errors import BadTrip, MeterError, NotPlain
from cabmeters.meters import Meter
from cabmeters.records import Record
from cabmeters.tables import Table

HUGE = 10 ** 30 - 1
NO_TRIPS = ("5a", "5 ", "-5", "\n", "3x5", "0" * 2001)


def plain_table():
    """Return a table that counts for the time or for the way."""
    return Table.either(6, 2)


def cab_meter():
    """Return the meter with one table that the interface shows."""
    return Meter(10, 6, [plain_table()], flag=30, each=10)


def double_meter():
    """Return the meter with two tables that the interface shows."""
    return Meter(4, 4, [Table.both(1, 1), Table.both(0, 3)], [2])


def triple_meter():
    """Return a meter with three tables, of which none is plain."""
    tables = [Table([3, 0, 4, 1, 5, 9, 2, 6, 5, 35]), Table([0] * 10), Table([8, 9, 7, 9, 3, 2, 3, 8, 4, 60])]
    return Meter(7, 5, [tables[0], tables[2], tables[1]], (2, 9), flag=11, each=3)


def any_meter(seed, worth=60, counts=60):
    """Return a meter with one, two or three tables of any worths up to a greatest one, always the same for a seed."""
    some = random.Random(seed)
    tables = [Table([some.randint(0, worth) for _ in range(10)]) for _ in range(some.randint(1, 3))]
    turns = sorted(some.sample(range(1, 10), len(tables) - 1))
    return Meter(some.randint(1, counts), some.randint(1, counts), tables, turns,
                 flag=some.randint(0, 1000), each=some.randint(1, 100))


def tell(record, fact):
    """Tell a record a fact that is written as in the list of its facts."""
    kind, tick, told = fact
    {"speeds": record.only, "passed": record.passed, "showed": record.showed, "jumped": record.jumped}[kind](tick, told)


def any_fact(some, record, trip):
    """Return a fact that mostly holds for a trip, and that may be told to a record."""
    ways = [sum(int(digit) for digit in trip[:tick]) for tick in range(len(trip) + 1)]
    prices = record.meter.prices(trip)
    wrong = some.random() < 0.1
    kind = some.choice(("speeds", "passed", "showed", "jumped") if trip else ("passed", "showed"))
    tick = some.randrange(len(trip) + (kind in ("passed", "showed")))
    if kind == "speeds":
        digits = set(some.sample("0123456789", some.randint(1, 8))) | (set() if wrong else {trip[tick]})
        return kind, tick, "".join(sorted(digits))
    if kind == "passed":
        return kind, tick, ways[tick] + wrong
    if kind == "showed":
        return kind, tick, prices[tick] + wrong * some.choice((1, record.meter.each))
    return kind, tick, (prices[tick + 1] > prices[tick]) != wrong


def any_record(seed, ticks, top=9, worth=9, counts=12, most=4):
    """Return a record with any meter and at most so many facts, always the same for a seed."""
    some = random.Random(seed)
    record = Record(any_meter(seed, worth, counts), ticks, top)
    trip = "".join(some.choices("0123456789"[:top + 1], k=ticks))
    for _ in range(some.randint(0, most)):
        tell(record, any_fact(some, record, trip))
    return record


def small_records():
    """Return a list of records of all kinds that have few trips."""
    sizes = ((0, 9), (1, 9), (2, 9), (3, 9), (4, 3), (5, 2), (6, 1), (4, 0), (5, 3))
    return [any_record(seed, *sizes[seed % len(sizes)]) for seed in range(120)]


def no_strings():
    """Return a list of values of which none is a string."""
    return [
        None, True, False, 0, 1, 5, -1, 9, 10, 60, HUGE, -HUGE,
        [], [[]], ["5"], [5], ["2x0"], [None], [True] * 10, [1] * 10,
        (), (5,), ("5",), ("5", "5"), ((((("5",),),),),),
        {}, {"5": 5}, {5: "5"}, {"5": [{"5": ("5", [5])}]},
        [[[[["5"]]]]], [1, "2", (3, [4, {5: None}])],
        plain_table(), [plain_table()], MeterError(), NotPlain(), BadTrip("5"),
        cab_meter(), [cab_meter()], (double_meter(), {"5": cab_meter()}), Record(cab_meter(), 0), Record(cab_meter(), 2),
    ]


def no_integers():
    """Return a list of values of which none is an integer."""
    numbers = (0, 1, 5, -1, 9, 10, 60, HUGE, -HUGE)
    others = [value for value in no_strings() if isinstance(value, bool) or value not in numbers]
    return others + ["", "0", "1", "5", " 5", "x"]


def no_numbers(least, most=None):
    """Return a list of values of which none is an integer from `least` to `most`, or above if there is no `most`."""
    below = [least - 1, least - 2, -1, -60, -HUGE]
    above = [most + 1, most + 2, most + 100, HUGE] if most is not None else []
    return no_integers() + [number for number in below if number < least] + above


def no_speed_strings():
    """Return a list of values of which none is a string of one or more different digits."""
    words = ["", " ", "00", "11", "010", "01234567890", "9876543210" * 2, "a", "5a", "5 ", " 5", "-5", "5,6", "\n", "5\n"]
    return no_strings() + words + ["\u0665", "\u00b2", "5\u0665"]


def caught(test, error, call, *arguments):
    """Return the error of a call, which has to be of just this class."""
    with test.assertRaises(error) as held:
        call(*arguments)
    test.assertEqual(held.exception.__class__, error)
    return held.exception


def check_given(test, error, given, call, *arguments):
    """Check that a call raises just this error, with the very value that it was given."""
    with test.subTest(call=call, arguments=arguments):
        test.assertIs(caught(test, error, call, *arguments).given, given)
