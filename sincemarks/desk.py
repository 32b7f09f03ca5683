"""A desk at which a live book is kept by rows of words."""
from sincemarks.boundtexts import bounds_line, heights_line
from sincemarks.changetexts import change_word
from sincemarks.chains import chain_of
from sincemarks.errors import InvalidRow, InvalidText, MarkError
from sincemarks.eventtexts import event_line, read_event
from sincemarks.historykinds import all_later, are_versions
from sincemarks.historytexts import history_line, read_kind
from sincemarks.kinds import is_number
from sincemarks.live import LiveMarks
from sincemarks.storetexts import bases_line
from sincemarks.words import integer_in


class Desk:
    """A desk with one live book, at first none."""

    def __init__(self):
        self._book = None
        self._returned = 0
        self._raised = 0

    def say(self, row):
        """Do what a row says, and answer it."""
        try:
            answer = self._answer(row)
        except MarkError:
            self._raised += 1
            raise
        self._returned += 1
        return answer

    def counts(self):
        """How many calls of say returned, and how many raised."""
        return (self._returned, self._raised)

    def _answer(self, row):
        if not isinstance(row, str):
            raise InvalidRow(row)
        words = row.split(" ")
        if words[0] == "begin":
            self._book = _begun(row, words)
            return "ok"
        if self._book is None:
            raise InvalidRow(row)
        if words[0] in ("thin", "bars", "tries", "state", "chain"):
            return _answered(self._book, row, words[0], words[1:])
        if row == "undo":
            return _undone(self._book)
        answer = _told(self._book, row)
        if answer is not None:
            return answer
        self._book.do(_event_in(self._book, row, words))
        return str(len(self._book))


def _begun(row, words):
    """The new book of a row that tells its kind, its roof and its usual bounds."""
    numbers = [integer_in(word) for word in words[-3:]]
    if not all([is_number(number) for number in numbers]):
        raise InvalidRow(row)
    try:
        kind = read_kind(" ".join(["kind"] + words[1:-3]))
    except InvalidText:
        raise InvalidRow(row) from None
    # Ahead of them stand begin and the words of a kind, so there are three of them.
    roof, width, reach = numbers
    return LiveMarks(kind, roof, width, reach)


def _answered(book, row, name, words):
    """The answer to a row that begins with this name, followed by words."""
    if name == "thin":
        return _thinned(book, row, words)
    if name == "bars":
        reason = book.barred(_event_in(book, row, words))
        return "-" if reason is None else reason
    if name == "tries":
        return history_line(book.tried(_event_in(book, row, words)).history_now())
    version = _version_in(book, row, words)
    if name == "state":
        return change_word(book.kind_now(), book.state_now(version))
    return _numbers_told(chain_of(book.history_now(), book.bases_now(), version))


def _thinned(book, row, words):
    """Drop all versions but those that the words tell."""
    versions = tuple([integer_in(word) for word in words])
    if not are_versions(book.history_now(), versions):
        raise InvalidRow(row)
    others = [version for version in reversed(all_later(book.history_now())) if version not in versions]
    return str(book.do_all(tuple([("drop", version) for version in others])))


def _event_in(book, row, words):
    """The event that the words tell."""
    try:
        return read_event(book.kind_now(), " ".join(words))
    except InvalidText:
        raise InvalidRow(row) from None


def _version_in(book, row, words):
    """The version of the book that the words tell."""
    version = integer_in(words[0]) if len(words) == 1 else None
    if version not in book:
        raise InvalidRow(row)
    return version


def _undone(book):
    events = book.events_now()
    book.undo()
    return event_line(book.kind_now(), events[-1])


def _told(book, word):
    """What a row of one word is told of the book, None for other rows."""
    kind, history = book.kind_now(), book.history_now()
    if word == "history":
        return history_line(history)
    if word == "bounds":
        return bounds_line(history, book.bounds_now())
    if word == "bases":
        return bases_line(history, book.bases_now())
    if word == "heights":
        return heights_line(history, tuple([row[-1] for row in book.rows_now()]))
    if word == "changes":
        return _or_none(" ".join([change_word(kind, change) for change in book.changes_now()]))
    if word == "wrote":
        return _numbers_told(book.wrote_now())
    if word == "many":
        return str(len(book))
    if word == "tally":
        return _numbers_told(book.tally())
    if word == "log":
        return _or_none(" / ".join([event_line(kind, event) for event in book.events_now()]))
    return None


def _numbers_told(numbers):
    return _or_none(" ".join([str(number) for number in numbers]))


def _or_none(text):
    # No word is empty, so this is what is left of no words.
    return "-" if text == "" else text
