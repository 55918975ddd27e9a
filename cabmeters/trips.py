"""Trips: strings of digits, one for the speed of each tick."""

from cabmeters.errors import BadText, BadTop, BadTrip
from cabmeters.integers import is_between, number_in

MOST_TICKS = 2000
TOP_SPEED = 9


def is_trip(value):
    """Tell whether any value is a trip."""
    if not isinstance(value, str) or len(value) > MOST_TICKS:
        return False
    return value == "" or (value.isascii() and value.isdigit())


def is_speed(value):
    """Tell whether any value is a speed."""
    return is_between(value, 0, TOP_SPEED)


def is_speeds(value):
    """Tell whether any value is a string of one or more different digits."""
    if not isinstance(value, str) or not (value.isascii() and value.isdigit()):
        return False
    return len(set(value)) == len(value)


def check_trip(trip):
    """Raise BadTrip if any value is not a trip."""
    if not is_trip(trip):
        raise BadTrip(trip)


def check_top(top):
    """Raise BadTop if any value is not a greatest speed."""
    if not is_speed(top):
        raise BadTop(top)


def way_of(trip):
    """Return the number of all steps of a trip."""
    check_trip(trip)
    return sum([int(digit) for digit in trip])


def ways_of(trip):
    """Return the list of the ways before each tick, and last behind all ticks."""
    check_trip(trip)
    ways = [0]
    for digit in trip:
        ways.append(ways[-1] + int(digit))
    return ways


def fastest(trip):
    """Return the greatest speed of a trip, 0 for the empty trip."""
    check_trip(trip)
    return int(max(trip, default="0"))


def stops(trip):
    """Return the list of the tuples (begin, end) of the stretches in which the cab stands."""
    check_trip(trip)
    return [(begin, end) for begin, end in _stretches(trip) if trip[begin] == "0"]


def as_text(trip):
    """Return the short text of a trip."""
    check_trip(trip)
    return " ".join([f"{end - begin}x{trip[begin]}" for begin, end in _stretches(trip)])


def from_text(text):
    """Return the trip whose short text this is."""
    if not isinstance(text, str):
        raise BadText(text)
    if text == "":
        return ""
    trip = ""
    for word in text.split(" "):
        ticks = _ticks_in(word)
        if ticks == "" or trip.endswith(ticks[0]) or len(trip) + len(ticks) > MOST_TICKS:
            raise BadText(text)
        trip += ticks
    return trip


def _stretches(trip):
    """Return the list of the tuples (begin, end) of the longest stretches with one speed."""
    found = []
    begin = 0
    for end in range(1, len(trip) + 1):
        if end == len(trip) or trip[end] != trip[begin]:
            found.append((begin, end))
            begin = end
    return found


def _ticks_in(word):
    """Return the ticks that a word such as "12x3" stands for, no ticks if it is not such a word."""
    many, _, speed = word.partition("x")
    number = number_in(many, MOST_TICKS)
    if number is None or number_in(speed, TOP_SPEED) is None:
        return ""
    return speed * number
