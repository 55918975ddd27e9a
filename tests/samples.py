"""Values of all kinds for the tests: what "any value" can be where a point says so."""

from cabmeters.errors import BadTrip, MeterError, NotPlain
from cabmeters.tables import Table

HUGE = 10 ** 30 - 1


def plain_table():
    """Return a table that counts for the time or for the way."""
    return Table.either(6, 2)


def no_strings():
    """Return a list of values of which none is a string."""
    return [
        None, True, False, 0, 1, 5, -1, 9, 10, 60, HUGE, -HUGE,
        [], [[]], ["5"], [5], ["2x0"], [None], [True] * 10, [1] * 10,
        (), (5,), ("5",), ("5", "5"), ((((("5",),),),),),
        {}, {"5": 5}, {5: "5"}, {"5": [{"5": ("5", [5])}]},
        [[[[["5"]]]]], [1, "2", (3, [4, {5: None}])],
        plain_table(), [plain_table()], MeterError(), NotPlain(), BadTrip("5"),
    ]


def no_integers():
    """Return a list of values of which none is an integer."""
    numbers = (0, 1, 5, -1, 9, 10, 60, HUGE, -HUGE)
    others = [value for value in no_strings() if isinstance(value, bool) or value not in numbers]
    return others + ["", "0", "1", "5", " 5", "x"]


def caught(test, error, call, *arguments):
    """Return the error of a call, which has to be of just this class."""
    with test.assertRaises(error) as held:
        call(*arguments)
    test.assertEqual(held.exception.__class__, error)
    return held.exception


def check_given(test, error, given, call, *arguments):
    """Check that a call raises just this error, with the very value that it was given."""
    with test.subTest(call=call, arguments=arguments):
        test.assertIs(caught(test, error, call, *arguments).given, given)
