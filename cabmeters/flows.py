"""How many trips that fit come through the counts and ways before each tick.

Before each tick, a dict has for each count an integer with one lane for each way. So all ways move at once, by one
shift. A tick before which all trips that fit have one way is a post. Between two posts, the lanes of what leads to
a count are those of the steps since the first post, and the lanes of what follows are those of the steps up to the
second one. Behind the last post the ways have no effect on what follows, which then has no lanes. At a post there
are no lanes either.
"""

from cabmeters.places import counts_in
from cabmeters.tallies import all_counts


class Flow:
    """The numbers of fronts to the counts before each tick, and of what can follow there. A trip has to fit."""

    def __init__(self, survey):
        self._survey = survey
        self._ticks = survey.ticks()
        self._layers = survey.layers()
        self._alive = [all_counts(layer) for layer in self._layers]
        # Ten to the number of ticks is less than so many hexadecimal digits can tell.
        self._digits = 10 * self._ticks // 12 + 1
        self._width = 4 * self._digits
        self._posts = [tick for tick, layer in enumerate(self._layers) if len(layer) == 1]
        self._backs = {self._ticks: {count: 1 for count in counts_in(self._alive[self._ticks])}}
        # The latest tick that was asked for, and the fronts before it: without ways behind the last post, and with.
        self._at = 0
        self._fronts = {0: 1}
        self._lanes_at = 0
        self._lanes_fronts = {0: 1}
        # The latest tick between two posts about which ways and counts were asked for, and what was found.
        self._joined_at = None
        self._joined = []

    def total(self):
        """Return the number of all trips that fit."""
        return self._back(0)[0]

    def counts(self, tick):
        """Return the tuple of the least and the greatest count before a tick."""
        alive = self._alive[tick]
        return (alive & -alive).bit_length() - 1, alive.bit_length() - 1

    def way_numbers(self, tick):
        """Return a dict from the ways before a tick to the numbers of the trips that fit with them."""
        low = self._lowest_way(tick)
        if len(self._layers[tick]) == 1:
            return {low: self.total()}
        if tick > self._posts[-1]:
            fronts = self._fronts_apart(tick)
            lanes = sum([fronts[count] * number for count, number in self._back(tick).items()])
            post_way = self._lowest_way(self._posts[-1])
            numbers = self._unpacked(lanes, low - post_way, len(self._spread_ways(tick)))
        else:
            numbers = [0 for _ in self._spread_ways(tick)]
            for _, of_ways in self._joined_before(tick):
                numbers = [number + more for number, more in zip(numbers, of_ways)]
        return {low + place: number for place, number in enumerate(numbers) if number > 0}

    def count_numbers(self, tick):
        """Return a dict from the counts before a tick to the numbers of the trips that fit with them."""
        if len(self._layers[tick]) > 1 and tick < self._posts[-1]:
            return {count: sum(of_ways) for count, of_ways in self._joined_before(tick)}
        fronts = self._fronts_to(tick)
        return {count: fronts[count] * number for count, number in self._back(tick).items()}

    def speed_numbers(self, tick):
        """Return a dict from the speeds in a tick to the numbers of the trips that fit with them."""
        fronts = self._fronts_to(tick)
        behind = self._back(tick + 1)
        apart = tick < self._posts[-1]
        offset = 0
        if apart:
            fronts, low = self._lanes(tick, fronts, tick, False)
            behind, low_behind = self._lanes(tick + 1, behind, tick, True)
            offset = low - low_behind
        numbers = {}
        for speed, worth, counts in self._survey.moves(tick):
            both = [(fronts[count], behind[count + worth]) for count in counts_in(counts & self._alive[tick])
                    if count + worth in behind]
            if apart:
                found = sum([_joined_from(here, there, offset + speed) for here, there in both])
            else:
                found = sum([here * there for here, there in both])
            numbers[speed] = numbers.get(speed, 0) + found
        return {speed: number for speed, number in numbers.items() if number > 0}

    def _back(self, tick):
        """Return a dict from the counts before a tick to the numbers of what follows there, with lanes or without."""
        at = min(list(self._backs))
        while at > tick:
            at -= 1
            self._backs[at] = self._back_before(at, self._backs[at + 1])
        return self._backs[tick]

    def _back_before(self, tick, behind):
        """Return what `_back` does for a tick, from that for the next one."""
        step = self._width if tick < self._posts[-1] else 0
        found = {}
        for speed, worth, counts in self._survey.moves(tick):
            for count in counts_in(counts & self._alive[tick]):
                if count + worth in behind:
                    found[count] = found.get(count, 0) + (behind[count + worth] << (step * speed))
        if step > 0 and tick in self._posts:
            return self._at_post(found, self._span(tick) - 1)
        return found

    def _fronts_to(self, tick):
        """Return a dict from the counts before a tick to the numbers of fronts, without lanes from the last post on."""
        if tick < self._at:
            self._at = 0
            self._fronts = {0: 1}
        while self._at < tick:
            self._fronts = self._fronts_behind(self._at, self._fronts, self._at < self._posts[-1])
            self._at += 1
        return self._fronts

    def _fronts_apart(self, tick):
        """Return what `_fronts_to` does for a tick behind the last post, with lanes."""
        if tick < self._lanes_at or self._lanes_at < self._posts[-1]:
            self._lanes_at = self._posts[-1]
            self._lanes_fronts = self._fronts_to(self._posts[-1])
        while self._lanes_at < tick:
            self._lanes_fronts = self._fronts_behind(self._lanes_at, self._lanes_fronts, True)
            self._lanes_at += 1
        return self._lanes_fronts

    def _fronts_behind(self, tick, fronts, apart):
        """Return the numbers of fronts behind a tick, with lanes or without, from those before it."""
        step = self._width if apart else 0
        alive = self._alive[tick + 1]
        found = {}
        for speed, worth, counts in self._survey.moves(tick):
            for count in counts_in(counts & self._alive[tick]):
                if alive >> (count + worth) & 1:
                    found[count + worth] = found.get(count + worth, 0) + (fronts[count] << (step * speed))
        if apart and tick + 1 in self._posts:
            return self._at_post(found, self._span(tick) - 1)
        return found

    def _at_post(self, numbers, steps):
        """Return a dict of numbers with lanes without them: only the lane of so many steps is left."""
        full = (1 << self._width) - 1
        return {count: lanes >> (self._width * steps) & full for count, lanes in numbers.items()}

    def _joined_before(self, tick):
        """Return a list of the tuples (count, numbers) of the trips with each count and way before a tick.

        This is for a tick between two posts; the numbers are in the order of the ways from the lowest one on.
        """
        if self._joined_at != tick:
            fronts, _ = self._lanes(tick, self._fronts_to(tick), tick, False)
            behind, _ = self._lanes(tick, self._back(tick), tick, True)
            self._joined = [(count, [one * other for one, other in zip(fronts[count], numbers)])
                            for count, numbers in behind.items()]
            self._joined_at = tick
        return self._joined

    def _lanes(self, tick, numbers, post_tick, turned):
        """Return the tuple (lists, low) of lists of the numbers in the lanes of all ways that trips have before a tick.

        The lists stand in the order of the ways, of which the first one is `low` steps behind the last post up to
        `post_tick`. The lanes are turned if they are those of the steps up to the next post.
        """
        before = max([post for post in self._posts if post <= post_tick])
        low = self._lowest_way(tick) - self._lowest_way(before)
        many = len(self._spread_ways(tick))
        if not turned:
            return {count: self._unpacked(lanes, low, many) for count, lanes in numbers.items()}, low
        rest = self._span(post_tick) - low - many
        return {count: self._unpacked(lanes, rest, many)[::-1] for count, lanes in numbers.items()}, low

    def _unpacked(self, lanes, low, many):
        """Return the list of the numbers in so many lanes from the one of so many steps on."""
        part = lanes >> (self._width * low) & ((1 << (self._width * many)) - 1)
        text = f"{part:x}".zfill(self._digits * many)
        ends = range(len(text), 0, -self._digits)
        return [int(text[end - self._digits:end], 16) for end in ends]

    def _lowest_way(self, tick):
        """Return the least way before a tick."""
        return min(list(self._layers[tick]))

    def _spread_ways(self, tick):
        """Return the list of all ways before a tick from the least to the greatest one."""
        return list(range(self._lowest_way(tick), max(list(self._layers[tick])) + 1))

    def _span(self, tick):
        """Return the number of the ways, from none on, that can be driven between the posts around a tick.

        The tick is not the last post, and the first one of the two posts may be directly before the tick.
        """
        before = max([post for post in self._posts if post <= tick])
        behind = min([post for post in self._posts if post > tick])
        return self._lowest_way(behind) - self._lowest_way(before) + 1


def _joined_from(here, there, offset):
    """Return the sum of the products of the numbers in a list with those that stand so much later in another one."""
    if offset < 0:
        return sum([one * other for one, other in zip(here[-offset:], there)])
    return sum([one * other for one, other in zip(here, there[offset:])])
