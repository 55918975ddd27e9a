"""What two records of one trip tell together: the places (way, count, other count) through which trips come.

A layer holds the places before one tick: it is a dict from the tuples (way, count), with the count of the first
meter, to an integer in which the bits of the counts of the second meter are set.
"""

from cabmeters.lanes import Lanes
from cabmeters.tallies import all_counts


class Shared:
    """All places through which the trips come that fit two records with equally many ticks.

    Up to a tick, the ways are told apart also if no fact is about them any more; elsewhere they are 0.
    """

    def __init__(self, record, other, tick):
        self._survey = record.survey()
        self._other = other.survey()
        self._ticks = len(record)
        self._last = max(self._survey.last_passed(), self._other.last_passed(), tick)
        self._alive = [self._apart(self._survey.layers()[at], at) for at in range(self._ticks + 1)]
        self._other_alive = [self._apart(self._other.layers()[at], at) for at in range(self._ticks + 1)]
        self._moves = [self._moves_in(at) for at in range(self._ticks)]
        self._layers = self._reached()

    def many(self):
        """Return the number of the trips that fit both records."""
        if not self._layers[-1]:
            return 0
        most = max([others.bit_length() for others in self._layers[-1].values()]) - 1
        lanes = Lanes(most, self._most_trips().bit_length() // 4 + 1)
        numbers = {place: lanes.only(lanes.all_with(1), others) for place, others in self._layers[-1].items()}
        for tick in range(self._ticks - 1, -1, -1):
            numbers = self._numbers_before(tick, numbers, lanes)
        return lanes.at(numbers[(0, 0)], 0)

    def trip(self):
        """Return a trip that fits both records, or None if there is none."""
        layers = self._led_on()
        if not layers[0]:
            return None
        trip = ""
        place, other = (0, 0), 0
        for tick in range(self._ticks):
            speed, place, other = self._step_on(tick, place, other, layers[tick + 1])
            trip += str(speed)
        return trip

    def ways(self, tick):
        """Return the ascending list of the ways before a tick, up to which they are told apart, in such trips."""
        ways = {way: True for way, _ in self._led_on()[tick]}
        return sorted(list(ways))

    def _apart(self, layer, tick):
        """Return the layer of a survey, with its ways if they are told apart before this tick."""
        return layer if tick <= self._last or not layer else {0: all_counts(layer)}

    def _moves_in(self, tick):
        """Return the list of the tuples (speed, worth, counts, other_worth, other_counts) of a tick."""
        return [(speed, worth, counts, other_worth, other_counts)
                for speed, worth, counts in self._survey.moves(tick)
                for other_speed, other_worth, other_counts in self._other.moves(tick) if other_speed == speed]

    def _most_trips(self):
        """Return a number that no number of trips is above."""
        most = 1
        for moves in self._moves:
            speeds = {move[0]: True for move in moves}
            most = most * len(speeds)
        return most

    def _steps(self, tick, place):
        """Return the list of the tuples (speed, place, worth, counts) of the moves of a tick from a place of a layer.

        The last two items are those of the second meter.
        """
        way, count = place
        apart = tick < self._last
        return [(speed, (way + speed if apart else 0, count + worth), other_worth, other_counts)
                for speed, worth, counts, other_worth, other_counts in self._moves[tick] if counts >> count & 1]

    def _reached(self):
        """Return the list of the layers of all places to which fronts lead, before each tick and behind all."""
        start = self._alive[0].get(0, 0) & self._other_alive[0].get(0, 0) & 1
        layers = [{(0, 0): 1} if start else {}]
        for tick in range(self._ticks):
            alive = self._alive[tick + 1]
            other_alive = self._other_alive[tick + 1]
            behind = {}
            for place, others in layers[-1].items():
                for _, ahead, worth, counts in self._steps(tick, place):
                    moved = (others & counts) << worth & other_alive.get(ahead[0], 0)
                    if moved and alive.get(ahead[0], 0) >> ahead[1] & 1:
                        behind[ahead] = behind.get(ahead, 0) | moved
            layers.append(behind)
        return layers

    def _led_on(self):
        """Return the list of the layers of the places of all trips that fit both records."""
        layers = [self._layers[-1]]
        for tick in range(self._ticks - 1, -1, -1):
            behind = layers[-1]
            found = {}
            for place, others in self._layers[tick].items():
                left = 0
                for _, ahead, worth, counts in self._steps(tick, place):
                    left |= counts & behind.get(ahead, 0) >> worth
                if others & left:
                    found[place] = others & left
            layers.append(found)
        return layers[::-1]

    def _numbers_before(self, tick, behind, lanes):
        """Return a dict from the places (way, count) before a tick to the numbers of what follows, from that behind it.

        The numbers are the lanes of integers, one for each count of the second meter.
        """
        found = {}
        for place in self._layers[tick]:
            numbers = 0
            for _, ahead, worth, counts in self._steps(tick, place):
                if ahead in behind:
                    numbers += lanes.only(lanes.behind(behind[ahead], worth), counts)
            if numbers > 0:
                found[place] = lanes.only(numbers, self._other_alive[tick][place[0]])
        return found

    def _step_on(self, tick, place, other, behind):
        """Return the tuple (speed, place, other) of a move of a tick that leads to a place of the layer behind it."""
        for speed, ahead, worth, counts in self._steps(tick, place):
            if counts >> other & 1 and behind.get(ahead, 0) >> (other + worth) & 1:
                return speed, ahead, other + worth
        return None
