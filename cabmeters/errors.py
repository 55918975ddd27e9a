"""The errors that the package raises on purpose."""


class MeterError(ValueError):
    """The base class of all errors of the package."""


class BadTrip(MeterError):
    """Something is not a trip."""

    def __init__(self, given):
        self.given = given


class BadText(MeterError):
    """Something is not the text that is asked for."""

    def __init__(self, given):
        self.given = given


class BadSpeed(MeterError):
    """Something is not a speed."""

    def __init__(self, given):
        self.given = given


class BadWorths(MeterError):
    """Something is not a list of worths."""

    def __init__(self, given):
        self.given = given


class BadNumber(MeterError):
    """Something is not a number that may stand there."""

    def __init__(self, given):
        self.given = given


class BadTop(MeterError):
    """Something is not a greatest speed."""

    def __init__(self, given):
        self.given = given


class BadTicks(MeterError):
    """Something is not a number of ticks, or not a split of a trip."""

    def __init__(self, given):
        self.given = given


class BadTick(MeterError):
    """Something is not the number of a tick."""

    def __init__(self, given):
        self.given = given


class BadTables(MeterError):
    """Something is not a list of tables for a meter."""

    def __init__(self, given):
        self.given = given


class BadTurns(MeterError):
    """Something is not a row of turns for a meter."""

    def __init__(self, given):
        self.given = given


class BadWay(MeterError):
    """Something is not a way."""

    def __init__(self, given):
        self.given = given


class BadPrice(MeterError):
    """Something is not a price."""

    def __init__(self, given):
        self.given = given


class BadStand(MeterError):
    """Something is not a stand of a meter."""

    def __init__(self, given):
        self.given = given


class BadName(MeterError):
    """Something is not a name for a fact."""

    def __init__(self, given):
        self.given = given


class NoFact(MeterError):
    """A card has no fact of this name."""

    def __init__(self, given):
        self.given = given


class BadStretches(MeterError):
    """Something is not a list of stretches for a route."""

    def __init__(self, given):
        self.given = given


class BadSpeeds(MeterError):
    """Something is not a string of different digits."""

    def __init__(self, given):
        self.given = given


class BadTold(MeterError):
    """Something is not what can be told or looked at."""

    def __init__(self, given):
        self.given = given


class BadClaim(MeterError):
    """Something is not a claim about a record."""

    def __init__(self, given):
        self.given = given


class BadFault(MeterError):
    """Something is not a fault of a meter."""

    def __init__(self, given):
        self.given = given


class NotPlain(MeterError):
    """A meter is not one with a single table of time and way."""


class TooMany(MeterError):
    """A meter has too many stands."""


class NothingToUndo(MeterError):
    """A card has no deed that can be taken back."""
