"""Sets of counts that go along roads and wait at lights, as integers in which the bits of the counts are set."""

from cabmeters.places import bits


class Drive:
    """How a meter counts on from sets of counts. The bits are those of the counts above a base."""

    def __init__(self, meter, base=0):
        scales = meter.scales()
        # For each table, the first bit for which it holds, the first one for which it does no more, and its worths.
        begins = [max(0, begin - base) for begin, _ in scales]
        self._scales = [(begin, end, worths) for begin, end, (_, worths) in zip(begins, begins[1:] + [None], scales)]

    def moved(self, counts, speed):
        """Return the set of the counts behind a tick with a speed."""
        behind = 0
        for begin, end, worths in self._scales:
            behind |= self._part(counts, begin, end) << worths[speed]
        return behind

    def points(self, counts, steps, most):
        """Return the list of the sets of counts behind 0, 1, and so on, up to all steps of a road."""
        found = [counts]
        for step in range(1, steps + 1):
            reached = 0
            for speed in range(1, min(most, step) + 1):
                reached |= self.moved(found[step - speed], speed)
            found.append(reached)
        return found

    def over(self, counts, roads):
        """Return the set of the counts behind a row of roads, tuples (steps, most)."""
        for steps, most in roads:
            counts = self.points(counts, steps, most)[-1]
        return counts

    def waits(self, counts, hold):
        """Return the list of the sets of counts behind 0, 1, and so on, up to so many ticks at a light."""
        found = [counts]
        while len(found) <= hold:
            found.append(self.moved(found[-1], 0))
        return found

    def before(self, counts, speed, bit):
        """Return the bit of a count in a set from which a tick with a speed leads to a count, or None."""
        for begin, end, worths in self._scales:
            at = bit - worths[speed]
            if at >= 0 and self._part(counts, begin, end) >> at & 1:
                return at
        return None

    def road_back(self, points, most, bit):
        """Return the tuple (trip, bit) of a trip that leads along a road to the bit of a count behind it.

        The second item is the bit of the count from which the trip begins.
        """
        trip = ""
        at = len(points) - 1
        while at > 0:
            speeds = [speed for speed in range(1, min(most, at) + 1)
                      if self.before(points[at - speed], speed, bit) is not None]
            speed = speeds[0]
            trip = str(speed) + trip
            bit = self.before(points[at - speed], speed, bit)
            at -= speed
        return trip, bit

    def wait_back(self, waits, ticks, bit):
        """Return the bit of a count at a light before so many ticks of waiting, for one behind them."""
        for counts in waits[:ticks][::-1]:
            bit = self.before(counts, 0, bit)
        return bit

    def _part(self, counts, begin, end):
        """Return the part of a set of counts from one bit on and below another one."""
        if end is not None:
            counts = counts & bits(0, end - 1)
        return counts >> begin << begin
