"""All errors of the package, in four families below MarkError."""


class MarkError(ValueError):
    """The base class of all errors of the package."""


class PaperError(MarkError):
    """The family of what checkers raise."""


class BookError(MarkError):
    """The family of what is wrong with parameters, stores and bounds."""


class LiveError(MarkError):
    """The family of what live books refuse."""


class TextError(MarkError):
    """The family of texts that cannot be read."""


class InvalidPaper(PaperError):
    """A checker does not accept its thing."""

    def __init__(self, word, at):
        self.word = word
        self.at = at


class NotUsable(BookError):
    """The parameter called word is not as stated."""

    def __init__(self, word, at):
        self.word = word
        self.at = at


class Faulty(BookError):
    """A store is not right: a version has a change lacking or too many."""

    def __init__(self, version, change):
        self.version = version
        self.change = change


class Unserved(BookError):
    """A version cannot be given its state."""

    def __init__(self, version):
        self.version = version


class Unkept(BookError):
    """Bounds cannot be kept, because of a wall."""

    def __init__(self, wall):
        self.wall = wall


class InvalidEvent(LiveError):
    """A live book refuses an event."""

    def __init__(self, event, reason):
        self.event = event
        self.reason = reason


class NothingToUndo(LiveError):
    """A live book has fewer events than are to be taken back."""

    def __init__(self, steps):
        self.steps = steps


class InvalidText(TextError):
    """A line cannot be read, from one of its words on."""

    def __init__(self, line, field):
        self.line = line
        self.field = field


class InvalidRow(TextError):
    """A desk does not understand what it is told."""

    def __init__(self, row):
        self.row = row
