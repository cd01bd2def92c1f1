"""All errors of the package."""


class StayError(ValueError):
    """The base class of all errors."""


class PaperError(StayError):
    """The family of what checkers refuse."""


class WebError(StayError):
    """The family of what cannot be done on a web."""


class LiveError(StayError):
    """The family of what a live house refuses."""


class TextError(StayError):
    """The family of texts that are no lines."""


class InvalidPaper(PaperError):
    """A checker refused its thing: word is the check, at where it failed."""

    def __init__(self, word, at):
        self.word = word
        self.at = at


class NotUsable(WebError):
    """The parameter called word is not as stated."""

    def __init__(self, word, at):
        self.word = word
        self.at = at


class NoRoom(WebError):
    """There is no table: the hope of closed past barred has a gap above 0."""

    def __init__(self, closed, barred):
        self.closed = closed
        self.barred = barred


class Endless(WebError):
    """Something goes on without end at stuck."""

    def __init__(self, stuck):
        self.stuck = stuck


class InvalidEvent(LiveError):
    """A live house refused the event, for the reason."""

    def __init__(self, event, reason):
        self.event = event
        self.reason = reason


class NothingToUndo(LiveError):
    """There are fewer events than steps to undo."""

    def __init__(self, steps):
        self.steps = steps


class InvalidText(TextError):
    """The text has not the form of a line."""

    def __init__(self, line, field):
        self.line = line
        self.field = field


class InvalidRow(TextError):
    """The text has the form of a line, but its row is wrong."""

    def __init__(self, row):
        self.row = row
