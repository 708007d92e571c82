"""The errors of the program. Each one keeps its fields as they are given."""


class InputError(ValueError):
    """An argument is not of the kind or form that the document asks for."""


class InvalidNumber(InputError):
    """An integer that is none, or is out of its range."""

    def __init__(self, number):
        self.number = number


class InvalidRatio(InputError):
    """A value that is not a ratio of the kind that is asked for."""

    def __init__(self, value):
        self.value = value


class InvalidShare(InputError):
    """A value that is not a share."""

    def __init__(self, value):
        self.value = value


class InvalidName(InputError):
    """A value that is not a name."""

    def __init__(self, name):
        self.name = name


class InvalidRows(InputError):
    """Rows that are those of no plan."""

    def __init__(self, index):
        self.index = index


class NotRising(InputError):
    """Rows of a plan whose class becomes less if the mark at this place of these marks becomes 1."""

    def __init__(self, marks, place):
        self.marks = marks
        self.place = place


class InvalidLimits(InputError):
    """Limits or rests that are not as they should be."""

    def __init__(self, index):
        self.index = index


class InvalidLooks(InputError):
    """Looks of a plan that are not as they should be."""

    def __init__(self, index):
        self.index = index


class InvalidMarks(InputError):
    """Marks, values or pairs with marks that are not as they should be."""

    def __init__(self, index):
        self.index = index


class InvalidState(InputError):
    """A pair that is not a reached state of the plan."""

    def __init__(self, state):
        self.state = state


class InvalidLines(InputError):
    """Lines of claims that are not as they should be."""

    def __init__(self, index):
        self.index = index


class InvalidSize(InputError):
    """A size that is none, or is out of its range."""

    def __init__(self, value):
        self.value = value


class InvalidMarked(InputError):
    """A number of marked rows, or a mark, that is none."""

    def __init__(self, value):
        self.value = value


class InvalidSeries(InputError):
    """A value that is not a series."""

    def __init__(self, index):
        self.index = index


class InvalidModulus(InputError):
    """A value that is not a modulus."""

    def __init__(self, value):
        self.value = value


class InvalidKeys(InputError):
    """Keys that are not as they should be."""

    def __init__(self, index):
        self.index = index


class InvalidLayers(InputError):
    """Claims of levels that are not as they should be."""

    def __init__(self, index):
        self.index = index


class InvalidTables(InputError):
    """A table of a survey whose pair is not as it should be."""

    def __init__(self, name):
        self.name = name


class InvalidDeeds(InputError):
    """Deeds that are not as they should be."""

    def __init__(self, index):
        self.index = index


class InvalidText(InputError):
    """A value that is not the text of an object."""

    def __init__(self, text):
        self.text = text


class InvalidCommand(InputError):
    """A value that is not a line of the console."""

    def __init__(self, command):
        self.command = command


class NotAPlan(InputError):
    """A value that is not a Plan."""

    def __init__(self, value):
        self.value = value


class NotClaims(InputError):
    """A value that is not a Claims object."""

    def __init__(self, value):
        self.value = value


class NotFlipped(InputError):
    """Rows that are not those of the flipped plan."""

    def __init__(self, found):
        self.found = found


class NotATable(InputError):
    """A value that is not a Table."""

    def __init__(self, value):
        self.value = value


class NotASample(InputError):
    """A value that is not a Sample."""

    def __init__(self, value):
        self.value = value


class StateError(LookupError):
    """What an object holds now does not allow the call."""


class UnknownName(StateError):
    """There is nothing with this name."""

    def __init__(self, name):
        self.name = name


class UnknownRow(StateError):
    """There is no row with this key now."""

    def __init__(self, key):
        self.key = key


class KnownRow(StateError):
    """There is a row with this key already."""

    def __init__(self, key):
        self.key = key


class SameRank(StateError):
    """There is a row with this rank already."""

    def __init__(self, rank):
        self.rank = rank


class Contradiction(StateError):
    """The row with this key was told to have another mark."""

    def __init__(self, key):
        self.key = key


class NotHeld(StateError):
    """The greatest wrong share would be greater than the limit."""

    def __init__(self, found):
        self.found = found


class Busy(StateError):
    """The desk is doing its deeds."""


class NothingToUndo(StateError):
    """There are fewer deeds than are to be taken back."""


class LimitError(ArithmeticError):
    """The call leads beyond a limit of the program."""


class TooFew(LimitError):
    """There are too few rows."""

    def __init__(self, looked):
        self.looked = looked


class TooFine(LimitError):
    """The modulus of a set of sizes would be too great."""

    def __init__(self, found):
        self.found = found
