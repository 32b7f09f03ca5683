"""The worths of sheets as lines."""
from sincemarks.changetexts import change_in, change_word
from sincemarks.errors import InvalidText
from sincemarks.kinds import is_number
from sincemarks.usable import require
from sincemarks.words import require_each
from sincemarks.worthkinds import are_changes, is_kind


def sheets_line(kind, sheets):
    """The word sheets and the word of each sheet."""
    require(is_kind(kind), "kind")
    require(are_changes(kind, sheets), "sheets")
    return " ".join(["sheets"] + [change_word(kind, sheet) for sheet in sheets])


def read_sheets(kind, many, text):
    """The many sheets with this line; InvalidText tells from which word on it is none."""
    require(is_kind(kind), "kind")
    require(is_number(many), "many")
    require(isinstance(text, str), "text")
    words = text.split(" ")
    if words[0] != "sheets":
        raise InvalidText(0, 0)
    sheets = [change_in(kind, word) for word in words[1:]]
    require_each(sheets, many, lambda index, sheet: sheet is not None, 1)
    return tuple(sheets)
