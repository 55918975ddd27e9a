"""Cards: the facts about one trip, each under a name, and two cards about one trip."""

from cabmeters.errors import BadName, BadTick, BadTicks, BadTold, NoFact, NothingToUndo
from cabmeters.integers import is_between, is_count
from cabmeters.records import Record, record_with
from cabmeters.shared import Shared
from cabmeters.trips import TOP_SPEED, is_speeds
from cabmeters.verdicts import verdict_on

MOST_LETTERS = 12
LETTERS = "abcdefghijklmnopqrstuvwxyz"


class CardTrial:
    """A `with` block at whose end a card knows what it knew when the block began, with the deeds that it had then."""

    def __init__(self, card):
        self._held = card
        self._facts = {}
        self._past = None
        self._deeds = 0

    def __enter__(self):
        self._facts, self._past, self._deeds = self._held.known()
        return self._held

    def __exit__(self, kind, value, trace):
        card = self._held
        card._facts = self._facts
        card._past = self._past
        card._deeds = self._deeds


class Card:
    """The facts about a trip of so many ticks with a meter aboard, each under a name."""

    def __init__(self, meter, ticks, top=TOP_SPEED):
        # A record of nothing, for all questions about what may be told.
        self._blank = Record(meter, ticks, top)
        # The facts by their names. Neither this dict nor the past is ever changed in place, so that both can be kept.
        self._facts = {}
        # None, or a tuple of the facts before the last deed, and of the past that was then.
        self._past = None
        self._deeds = 0

    def tell(self, name, fact):
        """Take in a fact under a name, in the place of the one that has this name, if there is one."""
        if not _is_name(name):
            raise BadName(name)
        if not _is_fact(self._blank, fact):
            raise BadTold(fact)
        kind, tick, told = fact
        if kind == "speeds":
            told = "".join(sorted(told))
        facts = {known: self._facts[known] for known in self._facts}
        facts[name] = (kind, tick, told)
        self._go_to(facts)

    def forget(self, name):
        """Take the fact of a name back."""
        if name not in self:
            raise NoFact(name)
        self._go_to({known: self._facts[known] for known in self._facts if known != name})

    def names(self):
        """Return the ascending list of the names of the facts."""
        return sorted(list(self._facts))

    def __contains__(self, x):
        """Tell whether there is a fact of a name, for any value."""
        return isinstance(x, str) and x in self._facts

    def __len__(self):
        """Return the number of the facts."""
        return len(self._facts)

    def fact_of(self, name):
        """Return the fact of a name."""
        if name not in self:
            raise NoFact(name)
        return self._facts[name]

    def record(self):
        """Return a new record that was told the facts, in the ascending order of their names."""
        return self.record_without([])

    def verdict(self, claim):
        """Return the verdict on the record of the facts and a claim."""
        return verdict_on(self.record(), claim)

    def decisive(self, claim):
        """Return the ascending list of the names of the facts without which the verdict would be another one."""
        verdict = self.verdict(claim)
        return [name for name in self.names() if verdict_on(self.record_without([name]), claim) != verdict]

    def undo(self):
        """Take the last deed back that is not taken back yet."""
        if self._past is None:
            raise NothingToUndo()
        self._facts, self._past = self._past
        self._deeds -= 1

    def deeds(self):
        """Return the number of the deeds that can be taken back."""
        return self._deeds

    def twin(self):
        """Return another card that knows the same and has the same deeds to take back."""
        card = Card(self._blank.meter, len(self._blank), self._blank.top)
        card._facts, card._past, card._deeds = self.known()
        return card

    def trial(self):
        """Return an object for a `with` block at whose end the card is as it was when the block began."""
        return CardTrial(self)

    def tried(self, deed):
        """Return what a function returns for this card, and take back what it did."""
        with self.trial() as held:
            return deed(held)

    def known(self):
        """Return the tuple of all that a trial has to keep."""
        return self._facts, self._past, self._deeds

    def ticks(self):
        """Return the number of ticks of the trip."""
        return len(self._blank)

    def record_without(self, names):
        """Return a new record that was told all facts but those of some names."""
        facts = [self._facts[name] for name in self.names() if name not in names]
        return record_with(self._blank.meter, len(self._blank), self._blank.top, facts)

    def _go_to(self, facts):
        """Do a deed, behind which these facts are known."""
        self._past = (self._facts, self._past)
        self._facts = facts
        self._deeds += 1


def both_number(one, other):
    """Return the number of the trips that fit the records of two cards."""
    _check_ticks(one, other)
    return Shared(one.record(), other.record(), 0).many()


def both_trip(one, other):
    """Return a trip that fits the records of two cards, or None if there is none."""
    _check_ticks(one, other)
    return Shared(one.record(), other.record(), 0).trip()


def shared_ways(one, other, tick):
    """Return the ascending list of the ways directly before a tick in trips that fit the records of two cards."""
    _check_ticks(one, other)
    if not is_between(tick, 0, one.ticks()):
        raise BadTick(tick)
    return Shared(one.record(), other.record(), tick).ways(tick)


def _check_ticks(one, other):
    """Raise BadTicks if a second card does not have as many ticks as the first one."""
    if one.ticks() != other.ticks():
        raise BadTicks(other.ticks())


def _is_name(value):
    """Tell whether any value is a name for a fact."""
    return isinstance(value, str) and 1 <= len(value) <= MOST_LETTERS and all([letter in LETTERS for letter in value])


def _is_fact(record, value):
    """Tell whether any value is a fact about a record, with its digits in any order."""
    if not isinstance(value, tuple) or len(value) != 3:
        return False
    kind, tick, told = value
    if kind in ("passed", "showed"):
        return is_between(tick, 0, len(record)) and is_count(told)
    if not is_between(tick, 0, len(record) - 1):
        return False
    if kind == "jumped":
        return told is True or told is False
    return kind == "speeds" and is_speeds(told)
