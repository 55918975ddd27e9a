"""What the document says of trips, worked out by plain listing: the tests compare the answers of the package with it."""

import itertools

DIGITS = "0123456789"


def all_trips(ticks, top=9):
    """Return the ascending list of all trips with so many ticks and no speed above `top`."""
    return ["".join(digits) for digits in itertools.product(DIGITS[:top + 1], repeat=ticks)]


def jumps_at(meter, count):
    """Return the number of jumps of a count, by going from jump to jump."""
    jumps = 0
    following = meter.first
    if count > 10000:
        # Most of the way is gone in whole drops at once.
        jumps = (count - 5000) // meter.drop
        following += meter.drop * jumps
    while count >= following:
        jumps += 1
        following += meter.drop
    return jumps


def worths_at(meter, count):
    """Return the worths that hold at a count."""
    worths = meter.tables[0].worths
    for turn, table in zip(meter.turns, meter.tables[1:]):
        if jumps_at(meter, count) >= turn:
            worths = table.worths
    return worths


def counts(meter, trip):
    """Return the list of the counts before each tick, and last behind all ticks."""
    found = [0]
    for digit in trip:
        found.append(found[-1] + worths_at(meter, found[-1])[int(digit)])
    return found


def ways(trip):
    """Return the list of the ways before each tick, and last behind all ticks."""
    return [sum(int(digit) for digit in trip[:tick]) for tick in range(len(trip) + 1)]


def price(meter, count):
    """Return the price of a count."""
    return meter.flag + meter.each * jumps_at(meter, count)


def stand(meter, trip):
    """Return the stand behind a trip."""
    count = counts(meter, trip)[-1]
    left = 1
    while jumps_at(meter, count + left) == jumps_at(meter, count):
        left += 1
    return (min(jumps_at(meter, count), max(meter.turns)) if meter.turns else 0), left


def agrees(meter, fact, trip):
    """Tell whether a fact holds for a trip."""
    kind, tick, told = fact
    prices = [price(meter, count) for count in counts(meter, trip)]
    if kind == "speeds":
        return trip[tick] in told
    if kind == "passed":
        return ways(trip)[tick] == told
    if kind == "showed":
        return prices[tick] == told
    return (prices[tick + 1] > prices[tick]) == told


def fitting(record):
    """Return the ascending list of all trips that fit a record."""
    facts = record.facts()
    return [trip for trip in all_trips(len(record), record.top)
            if all(agrees(record.meter, fact, trip) for fact in facts)]


def rows(record):
    """Return the list of the tuples (trip, ways, prices) of all trips that fit a record."""
    meter = record.meter
    return [(trip, ways(trip), [price(meter, count) for count in counts(meter, trip)]) for trip in fitting(record)]


def holds(claim, row):
    """Tell whether a claim holds for the trip of a row."""
    kind, tick, told = claim
    trip, driven, prices = row
    if kind == "way":
        return driven[tick] >= told
    if kind == "price":
        return prices[tick] >= told
    return trip[tick] in told


def layers(record):
    """Return the numbers of the fronts to each place of each number of ticks, and those of what can follow there.

    This is for records that are too long for listing: both are lists with a dict of the places for each number of
    ticks. What follows is counted for places with fronts alone.
    """
    meter = record.meter
    told = [[fact for fact in record.facts() if fact[1] == tick] for tick in range(len(record) + 1)]
    jumps = [jumps_at(meter, count) for count in range(60 * len(record) + 1)]
    worths = [worths_at(meter, count) for count in range(60 * len(record) + 1)]

    def kept(tick, place):
        return all(kind != "passed" or place[1] == number for kind, _, number in told[tick]) and all(
            kind != "showed" or meter.flag + meter.each * jumps[place[0]] == number for kind, _, number in told[tick])

    def led(tick, place):
        found = []
        for speed in map(int, record[tick]):
            count = place[0] + worths[place[0]][speed]
            jumped = jumps[count] > jumps[place[0]]
            behind = count, place[1] + speed
            if kept(tick + 1, behind) and all(fact[2] == jumped for fact in told[tick] if fact[0] == "jumped"):
                found.append((speed, behind))
        return found

    fronts = [{(0, 0): 1} if kept(0, (0, 0)) else {}]
    for tick in range(len(record)):
        fronts.append({})
        for place, many in fronts[tick].items():
            for _, behind in led(tick, place):
                fronts[-1][behind] = fronts[-1].get(behind, 0) + many
    backs = [{place: 1 for place in fronts[-1]}]
    speeds = []
    for tick in range(len(record) - 1, -1, -1):
        following = {place: [(speed, behind) for speed, behind in led(tick, place) if behind in backs[0]]
                     for place in fronts[tick]}
        speeds.insert(0, "".join(map(str, sorted({speed for found in following.values() for speed, _ in found}))))
        backs.insert(0, {place: sum(backs[0][behind] for _, behind in found)
                         for place, found in following.items() if found})
    return fronts, backs, speeds


def shows(record, claim, paper):
    """Tell whether a paper shows a claim, as point 33 says it, sentence by sentence."""
    meter = record.meter
    kind, at, told = claim
    if len(paper) != len(record) + 1 or paper[len(record)] != []:
        return False
    led = {(0, 0)}
    for tick in range(len(record) + 1):
        for count, way in led:
            fails = any(fact == "passed" and way != number or fact == "showed" and price(meter, count) != number
                        for fact, of_tick, number in record.facts() if of_tick == tick)
            claimed = at == tick and (
                kind == "way" and way >= told or kind == "price" and price(meter, count) >= told)
            if not fails and not claimed and (count, way) not in paper[tick]:
                return False
        if tick == len(record):
            return True
        led = set()
        for count, way in paper[tick]:
            for digit in record[tick]:
                behind = count + worths_at(meter, count)[int(digit)]
                jumps = jumps_at(meter, behind) > jumps_at(meter, count)
                counts_here = all(jumps == number for fact, of_tick, number in record.facts()
                                  if of_tick == tick and fact == "jumped")
                if counts_here and not (kind == "speed" and at == tick and digit in told):
                    led.add((behind, way + int(digit)))


def following(meter, stand, speed):
    """Return the tuple (stand, jumps) of a tick from a stand on, counted one by one."""
    stage, left = stand
    worths = [table.worths for table in meter.tables][sum(turn <= stage for turn in meter.turns)]
    jumps = 0
    for _ in range(worths[speed]):
        left -= 1
        if left == 0:
            jumps += 1
            left = meter.drop
    return (min(stage + jumps, max(meter.turns)) if meter.turns else 0, left), jumps


def pairs_ahead(one, other, starts, top):
    """Return a dict from all pairs of stands behind some pairs to the list of the tuples (pair, excess) of a tick."""
    found = {}
    waiting = list(starts)
    while waiting:
        pair = waiting.pop()
        if pair not in found:
            found[pair] = []
            for speed in range(top + 1):
                stand, jumps = following(one, pair[0], speed)
                other_stand, other_jumps = following(other, pair[1], speed)
                found[pair].append(((stand, other_stand), one.each * jumps - other.each * other_jumps))
                waiting.append((stand, other_stand))
    return found


def greatest_gains(ahead):
    """Return a dict from each pair to the greatest excess that can follow, or None if that grows for ever somewhere."""
    amounts = {pair: 0 for pair in ahead}
    for _ in range(len(ahead) + 1):
        last = amounts
        amounts = {pair: max([0] + [gain + last[behind] for behind, gain in ahead[pair]]) for pair in ahead}
        if amounts == last:
            return amounts
    return None
