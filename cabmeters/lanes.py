"""Many numbers in one integer, in lanes of equally many bits, which are moved, added and compared all at once."""

from cabmeters.places import bits


class Lanes:
    """Integers with a lane for each count up to a greatest one. The highest bit of each lane is free."""

    def __init__(self, most, digits):
        self._digits = digits
        self._width = 4 * digits
        self._counts = bits(0, most)
        self._known = {}
        self._ones = self._spread(self._counts, "1")
        self._guards = self._ones << (self._width - 1)

    def all_with(self, number):
        """Return the integer with a number in each lane."""
        return self._ones * number

    def only(self, lanes, counts):
        """Return the lanes of some counts, with 0 in the others; lanes above the greatest count are left out."""
        counts = counts & self._counts
        if counts not in self._known:
            self._known[counts] = self._spread(counts, "f")
        return lanes & self._known[counts]

    def behind(self, lanes, worth):
        """Return the lanes moved to the counts that are less by a worth."""
        return lanes >> (self._width * worth)

    def greater(self, lanes, others):
        """Return the integer with the greater one of two numbers in each lane."""
        # The free bits tell in which lanes the first number is at least the second one.
        told = ((lanes | self._guards) - others) & self._guards
        chosen = told - (told >> (self._width - 1))
        return others ^ ((lanes ^ others) & chosen)

    def at(self, lanes, count):
        """Return the number in one lane."""
        return lanes >> (self._width * count) & ((1 << self._width) - 1)

    def _spread(self, counts, digit):
        """Return the integer with 0 or, in the lanes of some counts, either 1 or the greatest number."""
        set_lane = digit * self._digits if digit == "f" else digit.zfill(self._digits)
        # Both are written with other signs first, as the digit of one may stand in the other.
        text = f"{counts:b}".replace("0", "-").replace("1", set_lane).replace("-", "0" * self._digits)
        return int(text, 16)
