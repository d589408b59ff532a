"""The errors of closedroads, each under the one base class that the document gives it."""

# Each class sets its attribute itself: a common class between it and its base class
# would be one class of the package too many above it.


class WrongValue(ValueError):
    """A value that is not what the document asks for."""


class InvalidText(WrongValue):
    """What was given is no text of a web."""

    def __init__(self, given):
        self.given = given


class InvalidPlace(WrongValue):
    """What was given is no place, or not one that may stand here."""

    def __init__(self, given):
        self.given = given


class InvalidCost(WrongValue):
    """What was given is no number for the cost of a road."""

    def __init__(self, given):
        self.given = given


class InvalidWay(WrongValue):
    """What was given is no way of the web."""

    def __init__(self, given):
        self.given = given


class InvalidAmount(WrongValue):
    """What was given is no amount."""

    def __init__(self, given):
        self.given = given


class InvalidNumber(WrongValue):
    """What was given is not the number, fraction or road asked for."""

    def __init__(self, given):
        self.given = given


class InvalidWish(WrongValue):
    """What was given is no wish."""

    def __init__(self, given):
        self.given = given


class InvalidCommand(WrongValue):
    """What was given is no command of a console."""

    def __init__(self, given):
        self.given = given


class NotAWeb(WrongValue):
    """What was given is no Web."""

    def __init__(self, given):
        self.given = given


class InvalidRoads(WrongValue):
    """The element with this index is wrong; None for no tuple or an empty one."""

    def __init__(self, index):
        self.index = index


class InvalidLoads(WrongValue):
    """The element with this index is wrong; None for no tuple or an empty one."""

    def __init__(self, index):
        self.index = index


class InvalidIndexes(WrongValue):
    """The element with this index is wrong; None for what is no tuple."""

    def __init__(self, index):
        self.index = index


class WrongName(LookupError):
    """A name for something that is not there."""


class UnknownRoad(WrongName):
    """What was given is no index of a road of the web."""

    def __init__(self, given):
        self.given = given


class NotPossible(ArithmeticError):
    """Something right in itself that cannot be done now."""


class NothingToUndo(NotPossible):
    """No change is left that could be taken back."""


class TooMany(NotPossible):
    """So many roads are too many for a web."""

    def __init__(self, given):
        self.given = given


class NoWay(NotPossible):
    """No way would be left, or the road would lie on none."""


class Broken(NotPossible):
    """The promise with this index would not hold."""

    def __init__(self, index):
        self.index = index
