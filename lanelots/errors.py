"""The errors of the package, each with what was wrong as its attributes."""


class LaneError(ValueError):
    """A value that was passed is not valid."""


class InvalidContent(LaneError):
    """The value is no content of as many lanes as it must have."""

    def __init__(self, value):
        self.value = value


class InvalidRow(LaneError):
    """The value is no row of as many lanes as it must have."""

    def __init__(self, value):
        self.value = value


class InvalidLane(LaneError):
    """The value is no lane of the object."""

    def __init__(self, value):
        self.value = value


class InvalidNumber(LaneError):
    """The value is no INTEGER."""

    def __init__(self, value):
        self.value = value


class InvalidMany(LaneError):
    """The value is no COUNT."""

    def __init__(self, value):
        self.value = value


class InvalidLanes(LaneError):
    """The value is no number of lanes that can be taken here."""

    def __init__(self, value):
        self.value = value


class InvalidGates(LaneError):
    """The gates are no list (None), or the first element at fault stands here."""

    def __init__(self, position):
        self.position = position


class InvalidGate(LaneError):
    """The value is no gate of the net's lanes."""

    def __init__(self, value):
        self.value = value


class InvalidPosition(LaneError):
    """The value is no place in the net."""

    def __init__(self, value):
        self.value = value


class InvalidOrder(LaneError):
    """The value is no list of all lanes, each once."""

    def __init__(self, value):
        self.value = value


class InvalidOther(LaneError):
    """The value does not go together with the one ahead of it."""

    def __init__(self, value):
        self.value = value


class InvalidLot(LaneError):
    """The value is no lot."""

    def __init__(self, value):
        self.value = value


class InvalidLots(LaneError):
    """The lots are no list (None), or the first element at fault stands here."""

    def __init__(self, position):
        self.position = position


class InvalidFamily(LaneError):
    """The value is no family that can be taken here."""

    def __init__(self, value):
        self.value = value


class InvalidFamilies(LaneError):
    """The families are no list (None), or the first element at fault stands here."""

    def __init__(self, position):
        self.position = position


class InvalidDifferences(LaneError):
    """The differences are no list (None), or the first element at fault stands here."""

    def __init__(self, position):
        self.position = position


class InvalidFlags(LaneError):
    """The value is no flags of the map's lanes."""

    def __init__(self, value):
        self.value = value


class InvalidTable(LaneError):
    """The value is no table of a plain map."""

    def __init__(self, value):
        self.value = value


class InvalidRate(LaneError):
    """The value is no rate."""

    def __init__(self, value):
        self.value = value


class InvalidPaper(LaneError):
    """The value is no paper of what is asked."""

    def __init__(self, value):
        self.value = value


class InvalidPlan(LaneError):
    """The value is no plan of the map."""

    def __init__(self, value):
        self.value = value


class InvalidAnswer(LaneError):
    """The value is no answer of the map."""

    def __init__(self, value):
        self.value = value


class InvalidWalk(LaneError):
    """The value is no walk of the map."""

    def __init__(self, value):
        self.value = value


class InvalidThing(LaneError):
    """The value is no thing that can be taken here."""

    def __init__(self, value):
        self.value = value


class InvalidText(LaneError):
    """The text has no written form; this line is the wrong one (0: it is no string)."""

    def __init__(self, line):
        self.line = line


class InvalidClaim(LaneError):
    """The value is no claim, or no word of one."""

    def __init__(self, value):
        self.value = value


class InvalidName(LaneError):
    """The value is no name."""

    def __init__(self, value):
        self.value = value


class InvalidParts(LaneError):
    """The parts are no list of the right length (None), or the part here is no name of a thing."""

    def __init__(self, position):
        self.position = position


class InvalidCommand(LaneError):
    """The value is no command."""

    def __init__(self, value):
        self.value = value


class MissingError(LookupError):
    """What was asked for is not there."""


class LackingLane(MissingError):
    """The spans lack this lane."""

    def __init__(self, lane):
        self.lane = lane


class UnknownName(MissingError):
    """Nothing has this name."""

    def __init__(self, value):
        self.value = value


class StateError(RuntimeError):
    """The values are valid, but what is asked cannot be done with them."""


class OtherLanes(StateError):
    """The two have unlike numbers of lanes."""

    def __init__(self, one, other):
        self.one = one
        self.other = other


class NothingFits(StateError):
    """No content fits the spans."""


class NotPlain(StateError):
    """The family of this lane has a number that is not 0."""

    def __init__(self, lane):
        self.lane = lane


class NotRising(StateError):
    """The map lowers this lane of the content."""

    def __init__(self, lane):
        self.lane = lane


class NotFalling(StateError):
    """The map makes this lane of the content greater."""

    def __init__(self, lane):
        self.lane = lane


class NotOneLot(StateError):
    """The family of this lane has several lots."""

    def __init__(self, lane):
        self.lane = lane


class Uneven(StateError):
    """Two lanes have unlike paces."""


class TakenName(StateError):
    """Something else has this name."""

    def __init__(self, value):
        self.value = value


class WrongThing(StateError):
    """The thing with this name is of no kind that is wanted."""

    def __init__(self, value):
        self.value = value


class Lost(StateError):
    """The note with this name is lost."""

    def __init__(self, name):
        self.name = name


class NothingToUndo(StateError):
    """No change can be taken back."""


class NothingToRedo(StateError):
    """No change can be done again."""


class CommandFailed(StateError):
    """The command here failed, so none of them has an effect."""

    def __init__(self, position):
        self.position = position


class LimitError(ArithmeticError):
    """A limit is exceeded."""


class TooMany(LimitError):
    """There would be more of what is told than the limit lets."""

    def __init__(self, what, limit):
        self.what = what
        self.limit = limit
