"""The places that trips come through: which counts and ways are possible before each tick of a record.

A layer holds the places (count, way) before one tick: it is a dict from each way to an integer in which the bits
of the counts are set. So all counts with one way move at once, by one shift.
"""

from cabmeters.tables import MOST_WORTH


class Survey:
    """All places through which the trips come that fit what is known.

    `left` has the digits that are left for each tick, `facts` are those of a record.
    """

    def __init__(self, meter, left, facts):
        self._meter = meter
        self._ticks = len(left)
        # Twice what a trip can count, as a paper may list places that no trip comes to.
        self._most = 2 * MOST_WORTH * self._ticks
        self._shown = [bits(0, self._most) for _ in range(self._ticks + 1)]
        self._passed = [[] for _ in range(self._ticks + 1)]
        jumped = [[] for _ in left]
        for kind, tick, told in facts:
            if kind == "showed":
                self._shown[tick] = self._shown[tick] & self._counts_with(told)
            elif kind == "passed":
                self._passed[tick].append(told)
            elif kind == "jumped":
                jumped[tick].append(told)
        jumping = self._jumping() if any([len(told) > 0 for told in jumped]) else []
        self._moves = [self._moves_of(digits, told, jumping) for digits, told in zip(left, jumped)]
        self._layers = None

    def layers(self):
        """Return the list of the layers of the places of all trips that fit, before each tick and behind all."""
        if self._layers is None:
            layers = self._reached()
            for tick in range(self._ticks - 1, -1, -1):
                layers[tick] = leaving(layers[tick], layers[tick + 1], self._moves[tick])
            self._layers = layers
        return self._layers

    def ticks(self):
        """Return the number of ticks."""
        return self._ticks

    def last_passed(self):
        """Return the last tick about whose beginning the way is known, 0 if there is none."""
        return max([tick for tick, told in enumerate(self._passed) if told], default=0)

    def shown(self, tick):
        """Return the integer with the bits of the counts that the known prices at a tick's beginning let."""
        return self._shown[tick]

    def moves(self, tick):
        """Return the list of the tuples (speed, worth, counts) of what a tick can add, at which counts."""
        return self._moves[tick]

    def kept(self, tick, layer):
        """Return the layer of those places at which all facts about a tick's beginning hold."""
        shown = self._shown[tick]
        told = self._passed[tick]
        return {way: counts & shown for way, counts in layer.items()
                if counts & shown and all([way == passed for passed in told])}

    def counts_below(self, price):
        """Return the integer with the bits of the counts whose price is less than this one."""
        return bits(0, min(self._meter.count_for(price), self._most + 1) - 1)

    def onward(self, tick, count, way):
        """Return the ascending list of the tuples (speed, worth) by which trips that fit leave a place."""
        behind = self.layers()[tick + 1]
        return [(speed, worth) for speed, worth, counts in self._moves[tick]
                if counts >> count & 1 and behind.get(way + speed, 0) >> (count + worth) & 1]

    def trips_on(self, front, count, way):
        """Yield all trips that fit and begin with a front, which leads to a place, in ascending order."""
        waiting = [(front, count, way)]
        while waiting:
            trip, trip_count, trip_way = waiting.pop()
            if len(trip) == self._ticks:
                yield trip
            else:
                # The last one in the list is the next one.
                for speed, worth in self.onward(len(trip), trip_count, trip_way)[::-1]:
                    waiting.append((trip + str(speed), trip_count + worth, trip_way + speed))

    def front_to(self, tick, count, way):
        """Return the first ticks of some trip that fits and comes to this place."""
        front = ""
        for at in range(tick - 1, -1, -1):
            speed, worth = self._step_back(at, count, way)
            front = str(speed) + front
            count -= worth
            way -= speed
        return front

    def speeds(self, tick):
        """Return the ascending list of the speeds that trips that fit have in a tick."""
        here = self.layers()[tick]
        behind = self.layers()[tick + 1]
        found = {}
        for move in self._moves[tick]:
            if move[0] not in found and leaving(here, behind, [move]):
                found[move[0]] = True
        return sorted(list(found))

    def _counts_with(self, price):
        """Return the integer with the bits of the counts that have this price."""
        span = self._meter.span_of(price)
        if span is None:
            return 0
        least, greatest = span
        return bits(least, min(greatest, self._most))

    def _moves_of(self, digits, told, jumping):
        """Return the moves of a tick for the digits that are left and what was told about its jumps."""
        scales = self._meter.scales()
        ends = [begin - 1 for begin, _ in scales[1:]] + [self._most]
        moves = []
        for digit in digits:
            speed = int(digit)
            for (begin, worths), end in zip(scales, ends):
                counts = bits(begin, min(end, self._most))
                for jumped in told:
                    of_jumps = jumping[worths[speed]]
                    counts = counts & of_jumps if jumped else counts & ~of_jumps
                if counts:
                    moves.append((speed, worths[speed], counts))
        return moves

    def _jumping(self):
        """Return a list that has for each worth the bits of the counts at which a tick with this worth has a jump."""
        ends = range(self._meter.first, self._most + MOST_WORTH + 1, self._meter.drop)
        jumps = sum([1 << count for count in ends])
        jumping = [0]
        for worth in range(1, MOST_WORTH + 1):
            jumping.append(jumping[-1] | jumps >> worth)
        return jumping

    def _reached(self):
        """Return the list of the layers of the places to which fronts lead that agree with all facts so far."""
        layers = [self.kept(0, {0: 1})]
        for tick in range(self._ticks):
            layers.append(self.kept(tick + 1, led(layers[-1], self._moves[tick])))
        return layers

    def _step_back(self, tick, count, way):
        """Return the tuple (speed, worth) of a move in this tick that leads some trip that fits to a place."""
        here = self.layers()[tick]
        for speed, worth, counts in self._moves[tick]:
            if worth <= count and (here.get(way - speed, 0) & counts) >> (count - worth) & 1:
                return speed, worth
        return None


def bits(least, greatest):
    """Return the integer in which the bits from the least to the greatest one are set, 0 if there are none."""
    if least > greatest:
        return 0
    return (1 << (greatest + 1)) - (1 << least)


def counts_in(counts):
    """Return the ascending list of the places of the bits that are set."""
    return [count for count, bit in enumerate(f"{counts:b}"[::-1]) if bit == "1"]


def led(layer, moves):
    """Return the layer of the places to which moves lead from the places of a layer."""
    behind = {}
    for way, counts in layer.items():
        for speed, worth, of_move in moves:
            moved = (counts & of_move) << worth
            if moved:
                behind[way + speed] = behind.get(way + speed, 0) | moved
    return behind


def leaving(layer, behind, moves):
    """Return the layer of those places of a layer from which a move leads to a place of the layer behind it."""
    found = {}
    for way, counts in layer.items():
        left = 0
        for speed, worth, of_move in moves:
            if way + speed in behind:
                left |= of_move & behind[way + speed] >> worth
        if counts & left:
            found[way] = counts & left
    return found
