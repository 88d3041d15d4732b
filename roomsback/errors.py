"""All errors of the package."""


class RoomError(ValueError):
    """The base class of all errors."""


class PaperError(RoomError):
    """The family of what checkers raise."""


class UseError(RoomError):
    """The family of arguments that cannot be used."""


class BenchError(RoomError):
    """The family of what a bench raises."""


class TextError(RoomError):
    """The family of texts that say nothing possible."""


class InvalidPaper(PaperError):
    """What was handed to a checker does not show what it should."""

    def __init__(self, word, at):
        self.word = word
        self.at = at


class NotUsable(UseError):
    """The argument of the parameter called word is of the wrong kind."""

    def __init__(self, word, at):
        self.word = word
        self.at = at


class NotPossible(UseError):
    """A move is not possible."""

    def __init__(self, at):
        self.at = at


class InvalidEvent(BenchError):
    """An event is not possible, for this reason."""

    def __init__(self, event, reason):
        self.event = event
        self.reason = reason


class NothingToUndo(BenchError):
    """There is nothing left to take back."""

    def __init__(self, steps):
        self.steps = steps


class Broken(BenchError):
    """Several events were broken off behind so many of them."""

    def __init__(self, done):
        self.done = done


class InvalidText(TextError):
    """A line of a text is not possible, from this column on."""

    def __init__(self, line, column):
        self.line = line
        self.column = column


class InvalidRow(TextError):
    """A desk does not know this row."""

    def __init__(self, row):
        self.row = row
