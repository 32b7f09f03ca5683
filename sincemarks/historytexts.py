"""Histories and kinds as lines."""
from sincemarks.errors import InvalidText
from sincemarks.historykinds import is_parent
from sincemarks.usable import require
from sincemarks.words import integer_in, integers_behind, numbers_line
from sincemarks.worthkinds import is_kind, is_kind_bound, is_kind_name, kind_length


def history_line(history):
    """The word history and the parents."""
    return numbers_line("history", history)


def read_history(text):
    """The history with this line; InvalidText tells from which word on it is none."""
    require(isinstance(text, str), "text")
    parents = integers_behind("history", text, 0)
    for index, parent in enumerate(parents):
        if not is_parent(index, parent):
            raise InvalidText(0, index + 1)
    return tuple(parents)


def kind_line(kind):
    """The word kind and the elements of the kind."""
    require(is_kind(kind), "kind")
    return " ".join(["kind"] + [str(part) for part in kind])


def read_kind(text):
    """The kind with this line; InvalidText tells from which word on it is none."""
    require(isinstance(text, str), "text")
    words = text.split(" ")
    if words[0] != "kind":
        raise InvalidText(0, 0)
    if len(words) < 2 or not is_kind_name(words[1]):
        raise InvalidText(0, 1)
    many = 1 + kind_length(words[1])
    parts = [words[1]]
    if many == 3:
        bound = integer_in(words[2]) if len(words) > 2 else None
        if not is_kind_bound(words[1], bound):
            raise InvalidText(0, 2)
        parts.append(bound)
    if len(words) > many:
        raise InvalidText(0, many)
    return tuple(parts)
