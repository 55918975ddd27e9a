"""Ways through a town, with lights that hold: prices along routes, and routes that are never dearer."""

from cabmeters.drives import Drive
from cabmeters.errors import BadPrice, BadStretches
from cabmeters.integers import is_between, is_count
from cabmeters.lights import Abreast
from cabmeters.places import bits, counts_in
from cabmeters.trips import TOP_SPEED, check_trip

MOST_STRETCHES = 12
MOST_STEPS = 60
MOST_HOLD = 9


class Route:
    """A row of roads and lights."""

    def __init__(self, stretches):
        if not _is_stretches(stretches):
            raise BadStretches(stretches)
        self._stretches = tuple(stretches)

    @property
    def stretches(self):
        """The list of the stretches."""
        return list(self._stretches)

    @property
    def steps(self):
        """The number of the steps of all roads."""
        return sum([stretch[1] for stretch in self._stretches if stretch[0] == "road"])

    @property
    def lights(self):
        """The list of the ticks that the lights hold at most, in order."""
        return [stretch[1] for stretch in self._stretches if stretch[0] == "light"]

    def has(self, trip):
        """Tell whether a trip goes along the route."""
        check_trip(trip)
        rest = trip
        for stretch in self._stretches:
            ticks = _waits_of(rest, stretch) if stretch[0] == "light" else _ticks_of(rest, stretch)
            if ticks is None:
                return False
            rest = rest[ticks:]
        return rest == ""

    def prices(self, meter):
        """Return the ascending list of the prices that a meter can show behind trips along the route."""
        counts = _layers(Drive(meter), self._stretches)[-1][-1]
        prices = {meter.price_at(count): True for count in counts_in(counts)}
        return sorted(list(prices))

    def trip_for(self, meter, price):
        """Return a trip along the route behind which a meter shows a price, or None if there is none."""
        if not is_count(price):
            raise BadPrice(price)
        drive = Drive(meter)
        layers = _layers(drive, self._stretches)
        counts = _with_price(meter, price, layers[-1][-1])
        if counts == 0:
            return None
        bit = counts.bit_length() - 1
        trip = ""
        for stretch, points in zip(self._stretches[::-1], layers[::-1]):
            part, bit = _part_back(drive, stretch, points, bit)
            trip = part + trip
        return trip


def dearer_waits(one, other, meter):
    """Return a tuple (waits, trip, other_trip) with which one route is dearer than another one, or None."""
    _check_lights(one, other)
    return Abreast(one.stretches, other.stretches, meter).dearer()


def waits_paper(one, other, meter):
    """Return the lists of pairs of counts that show that no waits make one route dearer than another one, or None."""
    _check_lights(one, other)
    abreast = Abreast(one.stretches, other.stretches, meter)
    if abreast.dearer() is not None:
        return None
    return abreast.paper()


def is_waits_paper(one, other, meter, paper):
    """Tell whether lists of pairs of counts show that no waits make one route dearer than another one."""
    _check_lights(one, other)
    if len(paper) != len(one.lights) + 1 or (0, 0) not in paper[0]:
        return False
    return Abreast(one.stretches, other.stretches, meter).is_shown(paper)


def _check_lights(one, other):
    """Raise BadStretches if two routes do not have equally many lights."""
    if len(one.lights) != len(other.lights):
        raise BadStretches(other.stretches)


def _is_stretches(value):
    """Tell whether any value is a list of stretches for a route."""
    if not isinstance(value, list) or not 1 <= len(value) <= MOST_STRETCHES:
        return False
    return all([_is_road(stretch) or _is_light(stretch) for stretch in value])


def _is_road(value):
    """Tell whether any value is a road."""
    if not isinstance(value, tuple) or len(value) != 3:
        return False
    kind, steps, most = value
    return kind == "road" and is_between(steps, 1, MOST_STEPS) and is_between(most, 1, TOP_SPEED)


def _is_light(value):
    """Tell whether any value is a light."""
    return isinstance(value, tuple) and len(value) == 2 and value[0] == "light" and is_between(value[1], 0, MOST_HOLD)


def _ticks_of(trip, road):
    """Return the number of the ticks at the beginning of a trip that go along a road, or None if it does not do so."""
    _, steps, most = road
    driven = 0
    for tick, digit in enumerate(trip):
        driven += int(digit)
        if not 1 <= int(digit) <= most or driven > steps:
            return None
        if driven == steps:
            return tick + 1
    return None


def _waits_of(trip, light):
    """Return the number of the ticks at the beginning of a trip in which the cab can stand at a light."""
    return min(len(trip) - len(trip.lstrip("0")), light[1])


def _layers(drive, stretches):
    """Return a list that has for each stretch the list of the sets of counts on it, and last behind it."""
    counts = 1
    found = []
    for stretch in stretches:
        if stretch[0] == "road":
            points = drive.points(counts, stretch[1], stretch[2])
        else:
            points = drive.waits(counts, stretch[1])
            points.append(_union(points))
        found.append(points)
        counts = points[-1]
    return found


def _union(sets):
    """Return the set of all counts in some sets."""
    found = 0
    for counts in sets:
        found |= counts
    return found


def _with_price(meter, price, counts):
    """Return the part of a set of counts that have a price."""
    span = meter.span_of(price)
    if span is None:
        return 0
    least, greatest = span
    return counts & bits(least, min(greatest, counts.bit_length()))


def _part_back(drive, stretch, points, bit):
    """Return the tuple (trip, bit) of a trip along a stretch to a count, and of the count from which it begins."""
    if stretch[0] == "road":
        return drive.road_back(points, stretch[2], bit)
    ticks = [counts >> bit & 1 for counts in points].index(1)
    return "0" * ticks, drive.wait_back(points, ticks, bit)
