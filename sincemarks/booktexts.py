"""Whole books as lines."""
from sincemarks.boundtexts import bounds_line, read_bounds
from sincemarks.changetexts import change_word, read_change
from sincemarks.errors import InvalidText
from sincemarks.historytexts import history_line, kind_line, read_history, read_kind
from sincemarks.states import require_changes
from sincemarks.usable import require
from sincemarks.words import are_lines, read_at


def book_lines(kind, history, changes, bounds):
    """The line of the kind, that of the history, the words of the changes, and the line of the bounds."""
    require_changes(kind, history, changes)
    words = [change_word(kind, change) for change in changes]
    return tuple([kind_line(kind), history_line(history)] + words + [bounds_line(history, bounds)])


def read_book(lines):
    """The kind, history, changes and bounds with these lines; InvalidText tells from where on they are none."""
    require(are_lines(lines), "lines")
    kind = read_at(lines, 0, read_kind)
    history = read_at(lines, 1, read_history)
    last = 2 + len(history)
    changes = [read_at(lines, index, lambda text: read_change(kind, text)) for index in range(2, last)]
    bounds = read_at(lines, last, lambda text: read_bounds(history, text))
    if len(lines) > last + 1:
        raise InvalidText(last + 1, 0)
    return (kind, history, tuple(changes), bounds)
