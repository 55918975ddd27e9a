"""What all trips that fit a record have together: how many they are, and the ranges of their ways."""


def number_of_trips(survey):
    """Return the number of trips that fit.

    All numbers for the places with one way are the lanes of one integer, one lane for each count, so that all of
    them move at once, as in the layers of a survey.
    """
    if not survey.layers()[0]:
        return 0
    # One digit more than the ticks: no lane can overflow, nor can the sum of all lanes.
    digits = survey.ticks() + 1
    wide = _wide_bits(survey, digits)
    numbers = {0: 1}
    for tick in range(survey.ticks()):
        numbers = _counted(survey, tick, numbers, wide, digits)
    return _sum_of_lanes(sum(list(numbers.values())), digits)


def least_way(survey, begin, end, sign):
    """Return the least way, times a sign, of trips that fit in the ticks from one to another one.

    A trip has to fit.
    """
    layers = survey.layers()
    moves = [survey.moves(tick) for tick in range(end)]
    if begin >= survey.last_passed():
        # What can follow hangs on the count alone, so that all ways are treated as one.
        layers = [{0: all_counts(layer)} for layer in layers]
        steps = 0
    else:
        steps = 1
    least = {way: [(0, counts)] for way, counts in layers[end].items()}
    for tick in range(end - 1, begin - 1, -1):
        least = {way: _least_from(way, counts, moves[tick], steps, least, sign) for way, counts in layers[tick].items()}
    return min([amounts[0][0] for amounts in least.values()])


def all_counts(layer):
    """Return the bits of the counts of all places of a layer."""
    found = 0
    for counts in layer.values():
        found |= counts
    return found


def _counted(survey, tick, numbers, wide, digits):
    """Return the numbers of fronts behind a tick, from those before it."""
    # Behind the last tick about whose beginning a way is known, the ways need not be told apart.
    told_apart = tick < survey.last_passed()
    layer = survey.layers()[tick + 1]
    behind = {}
    for way, lanes in numbers.items():
        for speed, worth, counts in survey.moves(tick):
            ahead = way + speed if told_apart else way
            if ahead in layer or not told_apart:
                moved = (lanes & wide[counts]) << (4 * digits * worth)
                behind[ahead] = behind.get(ahead, 0) + moved
    shown = wide[survey.shown(tick + 1)]
    return {way: lanes & shown for way, lanes in behind.items() if lanes & shown}


def _wide_bits(survey, digits):
    """Return a dict from the bits of counts that a survey has to the same with a lane of hexadecimal digits each."""
    needed = [survey.shown(tick) for tick in range(survey.ticks() + 1)]
    for tick in range(survey.ticks()):
        needed.extend([move[2] for move in survey.moves(tick)])
    wide = {}
    for counts in needed:
        if counts not in wide:
            lanes = f"{counts:b}".replace("0", "0" * digits).replace("1", "f" * digits)
            wide[counts] = int(lanes, 16)
    return wide


def _sum_of_lanes(lanes, digits):
    """Return the sum of the numbers in all lanes, which fits in one lane and is not the greatest number there."""
    # As with the sum of the decimal digits and the rest by 9, the rest by the greatest number in a lane is the sum.
    return lanes % ((1 << (4 * digits)) - 1)


def _least_from(way, counts, moves, steps, least, sign):
    """Return the ascending list of the tuples (amount, counts) of the least amounts from the places with one way on.

    `least` has these lists for the ways behind one more tick. Each count stands in one tuple alone.
    """
    found = {}
    for speed, worth, of_move in moves:
        for amount, behind in least.get(way + steps * speed, []):
            here = counts & of_move & (behind >> worth)
            if here:
                found[amount + sign * speed] = found.get(amount + sign * speed, 0) | here
    taken = 0
    first = []
    for amount in sorted(list(found)):
        new = found[amount] & ~taken
        if new:
            first.append((amount, new))
            taken |= new
    return first
