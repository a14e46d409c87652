"""The errors of the package, and what they tell."""


class SpotError(ValueError):
    """A value that is passed is not valid."""


class InvalidDegree(SpotError):
    """A value that is no COUNT, or a degree out of the bounds told there."""

    def __init__(self, value):
        self.value = value


class InvalidForm(SpotError):
    """A value that is no Form, where one is wanted."""

    def __init__(self, value):
        self.value = value


class InvalidMany(SpotError):
    """A value that is no COUNT within the bounds told there, where a number of things is wanted."""

    def __init__(self, value):
        self.value = value


class InvalidNumber(SpotError):
    """A value that is no INTEGER, where one is wanted."""

    def __init__(self, value):
        self.value = value


class InvalidPoint(SpotError):
    """A value that is no point."""

    def __init__(self, value):
        self.value = value


class InvalidPosition(SpotError):
    """A value that is no position of the spots."""

    def __init__(self, value):
        self.value = value


class InvalidRow(SpotError):
    """A value that is no row that can be."""

    def __init__(self, value):
        self.value = value


class InvalidSpots(SpotError):
    """A value that is no Spots object."""

    def __init__(self, value):
        self.value = value


class InvalidTable(SpotError):
    """A value that is no table."""

    def __init__(self, value):
        self.value = value


class InvalidClaim(SpotError):
    """A value that is no claim."""

    def __init__(self, value):
        self.value = value


class InvalidCommand(SpotError):
    """A value that is no command."""

    def __init__(self, value):
        self.value = value


class InvalidCounts(SpotError):
    """A value that is no list of one or more COUNTS."""

    def __init__(self, value):
        self.value = value


class InvalidLengths(SpotError):
    """A value that is no list of lengths of a row."""

    def __init__(self, value):
        self.value = value


class InvalidLetter(SpotError):
    """A value that is none of the letters."""

    def __init__(self, value):
        self.value = value


class InvalidLine(SpotError):
    """A value that is no line."""

    def __init__(self, value):
        self.value = value


class InvalidLines(SpotError):
    """The position of the first wrong one among lines; None if they are no such list."""

    def __init__(self, position):
        self.position = position


class InvalidOthers(SpotError):
    """The position of the first wrong one among the other lines; None if they are no such list."""

    def __init__(self, position):
        self.position = position


class InvalidPaper(SpotError):
    """A value that is no paper of the claim or its contrary."""

    def __init__(self, value):
        self.value = value


class InvalidPlace(SpotError):
    """A value that is no COUNT, where a place of a row is wanted."""

    def __init__(self, value):
        self.value = value


class InvalidPoints(SpotError):
    """The position of the first wrong one among points; None if they are no such list."""

    def __init__(self, position):
        self.position = position


class InvalidPositions(SpotError):
    """A value that is no list of unlike positions, or of all of them."""

    def __init__(self, value):
        self.value = value


class InvalidSort(SpotError):
    """A value that is no word of a sort."""

    def __init__(self, value):
        self.value = value


class InvalidTerms(SpotError):
    """A value that is no dict of terms of the degree."""

    def __init__(self, value):
        self.value = value


class InvalidText(SpotError):
    """The number of the wrong line of a text; 0 for what is no string."""

    def __init__(self, line):
        self.line = line


class InvalidThing(SpotError):
    """A value that is none of the sort."""

    def __init__(self, value):
        self.value = value


class MissingError(LookupError):
    """Nothing is there under what is asked for."""


class UnknownLabel(MissingError):
    """A label under which nothing is noted."""

    def __init__(self, value):
        self.value = value


class UnknownName(MissingError):
    """A name under which nothing is kept."""

    def __init__(self, value):
        self.value = value


class StateError(RuntimeError):
    """Valid values do not go together, or not as things are."""


class NoughtForm(StateError):
    """A form is nought that must not be."""


class UnlikeDegrees(StateError):
    """Two forms are of unlike degrees."""


class OneLeft(StateError):
    """The only point would be taken away."""


class NotStill(StateError):
    """The row does not stand still at the place."""


class BoxTooGreat(StateError):
    """A box has too many places, or too great a sum."""


class CommandFailed(StateError):
    """The position of the command that failed, among several."""

    def __init__(self, position):
        self.position = position


class LabelTaken(StateError):
    """The label under which something is noted already."""

    def __init__(self, label):
        self.label = label


class NameTaken(StateError):
    """The name under which something is kept already."""

    def __init__(self, name):
        self.name = name


class NoBox(StateError):
    """The row has no link in the box."""


class NoNinth(StateError):
    """The eight points have no ninth one."""


class NotAll(StateError):
    """The points are not all that two forms have in common."""


class NotApart(StateError):
    """The points of a net are not unlike."""


class NotEight(StateError):
    """The points are not eight."""


class NotFew(StateError):
    """The points are too many to tell why they fail."""


class NotFour(StateError):
    """The points are not four of which no three lie on a line."""


class NothingToRedo(StateError):
    """No deed was taken back that could be done again."""


class NothingToUndo(StateError):
    """No deed is there that could be taken back."""


class PointThere(StateError):
    """The point is one of the spots already."""


class SameLine(StateError):
    """Two lines are the same, up to a number."""


class SamePoint(StateError):
    """Two points are the same."""


class WrongThing(StateError):
    """The name under which another kind of thing is kept than is wanted."""

    def __init__(self, name):
        self.name = name


class LimitError(ArithmeticError):
    """A limit is reached."""


class TooMany(LimitError):
    """There would be more of what is told than the limit."""

    def __init__(self, what, limit):
        self.what = what
        self.limit = limit
