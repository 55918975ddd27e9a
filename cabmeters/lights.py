"""Trips along two routes with the same lights, which hold equally long on both."""

from cabmeters.drives import Drive
from cabmeters.places import counts_in
from cabmeters.tables import MOST_WORTH


class Abreast:
    """The pairs of counts that trips along two routes can have behind each number of lights, with the same waits.

    Pairs are a dict from the count on the one route to the set of the counts on the other one, as bits.
    """

    def __init__(self, stretches, other_stretches, meter):
        self._meter = meter
        self._drive = Drive(meter)
        self._roads = _roads_between(stretches)
        self._other_roads = _roads_between(other_stretches)
        self._holds = [min(hold, other) for hold, other in zip(_holds(stretches), _holds(other_stretches))]

    def dearer(self):
        """Return a tuple (waits, trip, other_trip) with a greater price of the first trip, or None."""
        rounds = self._rounds()
        for count, others in rounds[-1].items():
            most = self._reached(count, self._roads[-1])[-1]
            least = _lowest_bit(self._drive.over(others, self._other_roads[-1]))
            if self._meter.price_at(most) > self._meter.price_at(least):
                return self._trips_back(rounds, count, most, least)
        return None

    def paper(self):
        """Return the lists of all pairs behind each number of lights."""
        return [[(count, other) for count in sorted(list(pairs)) for other in counts_in(pairs[count])]
                for pairs in self._rounds()]

    def is_shown(self, paper):
        """Tell whether lists of pairs have all pairs to which they lead, and lead to no dearer ones at the end."""
        # Behind each light, what near pairs lead to is near, too.
        span = MOST_WORTH * (_length(self._roads) + _length(self._other_roads) + max(self._holds + [0]) + 1)
        for number, listed in enumerate(paper):
            near, far = _near_and_far(listed, span * (number + 1))
            if number == len(self._holds):
                return self._is_never_dearer(near, far)
            needed = self._waited(self._arrived(near, number), number)
            following, _ = _near_and_far(paper[number + 1], span * (number + 2))
            if not all([following.get(count, 0) & others == others for count, others in needed.items()]):
                return False
            known = {pair: True for pair in paper[number + 1]} if far else {}
            if not all([pair in known for pair in self._far_behind(far, number)]):
                return False
        return True

    def _rounds(self):
        """Return the list of the pairs behind each number of lights, from 0 on."""
        rounds = [{0: 1}]
        for number in range(len(self._holds)):
            rounds.append(self._waited(self._arrived(rounds[-1], number), number))
        return rounds

    def _arrived(self, pairs, number):
        """Return the pairs at a light before the wait, from those behind the light before it."""
        found = {}
        for count, others in pairs.items():
            behind = self._drive.over(others, self._other_roads[number])
            for reached in self._reached(count, self._roads[number]):
                found[reached] = found.get(reached, 0) | behind
        return found

    def _waited(self, arrived, number):
        """Return the pairs behind all waits at a light, from those before it."""
        found = {}
        hold = self._holds[number]
        for count, others in arrived.items():
            for behind, others_behind in zip(self._waits(count, hold), self._drive.waits(others, hold)):
                found[behind] = found.get(behind, 0) | others_behind
        return found

    def _reached(self, count, roads):
        """Return the ascending list of the counts to which roads lead from a count of any size."""
        return [count + more for more in counts_in(Drive(self._meter, count).over(1, roads))]

    def _waits(self, count, hold):
        """Return the list of the counts behind 0, 1, and so on, up to so many ticks in which the cab stands."""
        return [count + behind.bit_length() - 1 for behind in Drive(self._meter, count).waits(1, hold)]

    def _is_never_dearer(self, near, far):
        """Tell whether no last roads lead to a greater price on the one route than on the other one."""
        least = {count: _lowest_bit(self._drive.over(others, self._other_roads[-1])) for count, others in near.items()}
        ends = list(least.items()) + [(count, self._reached(other, self._other_roads[-1])[0]) for count, other in far]
        most = {count: self._reached(count, self._roads[-1])[-1] for count, _ in ends}
        return all([self._meter.price_at(most[count]) <= self._meter.price_at(other) for count, other in ends])

    def _far_behind(self, far, number):
        """Return the list of the pairs behind all waits at a light to which pairs lead, one by one."""
        hold = self._holds[number]
        found = []
        for count, other in far:
            for reached in self._reached(count, self._roads[number]):
                for other_reached in self._reached(other, self._other_roads[number]):
                    found.extend(list(zip(self._waits(reached, hold), self._waits(other_reached, hold))))
        return found

    def _trips_back(self, rounds, count, end, other_end):
        """Return the tuple (waits, trip, other_trip) of trips that end with two counts.

        The count on the one route behind all lights is told, those on the other one are beside it in the last round.
        """
        trip, _ = self._along(self._roads[-1], 1 << count, end)
        other_trip, other = self._along(self._other_roads[-1], rounds[-1][count], other_end)
        waits = []
        for number in range(len(self._holds) - 1, -1, -1):
            ticks, end, other_end = self._wait_before(self._arrived(rounds[number], number), number, count, other)
            for count, others in rounds[number].items():
                if self._leads(count, others, number, end, other_end):
                    break
            part, _ = self._along(self._roads[number], 1 << count, end)
            other_part, other = self._along(self._other_roads[number], others, other_end)
            waits.append(ticks)
            trip = part + "0" * ticks + trip
            other_trip = other_part + "0" * ticks + other_trip
        return waits[::-1], trip, other_trip

    def _wait_before(self, arrived, number, count, other):
        """Return a tuple (ticks, end, other_end) of a wait that leads to a pair, and of the pair before it."""
        hold = self._holds[number]
        for end, others in arrived.items():
            sets = self._drive.waits(others, hold)
            for ticks, behind in enumerate(self._waits(end, hold)):
                if behind == count and sets[ticks] >> other & 1:
                    return ticks, end, self._drive.wait_back(sets, ticks, other)
        return None

    def _leads(self, count, others, number, end, other_end):
        """Tell whether the roads up to a light lead from a count, and from one of a set, to those at this light."""
        if end not in self._reached(count, self._roads[number]):
            return False
        return self._drive.over(others, self._other_roads[number]) >> other_end & 1 == 1

    def _along(self, roads, counts, end):
        """Return the tuple (trip, count) of a trip along roads from one of a set of counts to a count behind them."""
        points = []
        for steps, most in roads:
            points.append(self._drive.points(counts, steps, most))
            counts = points[-1][-1]
        trip = ""
        for (_, most), sets in zip(roads[::-1], points[::-1]):
            part, end = self._drive.road_back(sets, most, end)
            trip = part + trip
        return trip, end


def _roads_between(stretches):
    """Return the list of the rows of roads, tuples (steps, most), before the first light, the second one, and so on.

    The last row has the roads behind all lights.
    """
    rows = [[]]
    for stretch in stretches:
        if stretch[0] == "road":
            rows[-1].append((stretch[1], stretch[2]))
        else:
            rows.append([])
    return rows


def _holds(stretches):
    """Return the list of the ticks that the lights hold at most."""
    return [stretch[1] for stretch in stretches if stretch[0] == "light"]


def _length(rows):
    """Return the number of the steps of all roads."""
    return sum([steps for roads in rows for steps, _ in roads])


def _lowest_bit(counts):
    """Return the least count in a set."""
    return (counts & -counts).bit_length() - 1


def _near_and_far(listed, most):
    """Return the tuple of the pairs with a second count of at most this, and of the list of the other ones."""
    near = {}
    far = []
    for count, other in listed:
        if other <= most:
            near[count] = near.get(count, 0) | 1 << other
        else:
            far.append((count, other))
    return near, far
