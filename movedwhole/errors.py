"""The errors of the package; each keeps what it was made with."""


class MoveError(ValueError):
    """What all errors of the package are; it is never raised itself."""


class InvalidNumber(MoveError):
    """A value that is no such number as is expected."""

    def __init__(self, value):
        self.value = value


class InvalidCluster(MoveError):
    """A cluster's part ("racks", "rooms" or "rates") that is wrong at a place."""

    def __init__(self, part, place):
        self.part = part
        self.place = place


class InvalidWishes(MoveError):
    """A value that is no wishes, or not such as are expected."""

    def __init__(self, value):
        self.value = value


class InvalidPlacing(MoveError):
    """A value that is no placing, or not such a one as is expected."""

    def __init__(self, value):
        self.value = value


class InvalidLot(MoveError):
    """A value that is no lot, or not such a one as is expected."""

    def __init__(self, value):
        self.value = value


class InvalidMoves(MoveError):
    """A value that is no tuple of triples of numbers."""

    def __init__(self, value):
        self.value = value


class InvalidPairs(MoveError):
    """A value that is no tuple of pairs of unlike stores."""

    def __init__(self, value):
        self.value = value


class InvalidPlan(MoveError):
    """A value that is no plan of the pairs."""

    def __init__(self, value):
        self.value = value


class InvalidOutcomes(MoveError):
    """A value that does not tell an outcome for each move of a round."""

    def __init__(self, value):
        self.value = value


class InvalidDeed(MoveError):
    """A value that is no deed, or none that fits now."""

    def __init__(self, value):
        self.value = value


class InvalidJournal(MoveError):
    """A journal of which the line at a place is wrong."""

    def __init__(self, place):
        self.place = place


class InvalidText(MoveError):
    """A text that is wrong from the sign at a place on."""

    def __init__(self, text, at):
        self.text = text
        self.at = at


class InvalidLine(MoveError):
    """A line that is wrong from the sign at a place on."""

    def __init__(self, line, at):
        self.line = line
        self.at = at


class UnknownWord(MoveError):
    """A first word of a line that is no deed and no question."""

    def __init__(self, word):
        self.word = word


class TooMany(MoveError):
    """More of something ("stores", "pieces", "pairs") than there may be."""

    def __init__(self, what):
        self.what = what


class Undefined(MoveError):
    """Something asked for that there is not, for want of what is told."""

    def __init__(self, what):
        self.what = what


class NothingToUndo(MoveError):
    """An "undo" or a "redo" with no deed that it could be about."""

    def __init__(self, word):
        self.word = word
