"""Changes as words."""
from sincemarks.errors import InvalidText
from sincemarks.usable import require
from sincemarks.words import integer_in
from sincemarks.worthkinds import is_change, is_kind


def change_word(kind, change):
    """The change as one word."""
    require(is_kind(kind), "kind")
    require(is_change(kind, change), "change")
    name = kind[0]
    if name in ("sum", "peak"):
        return str(change)
    if name == "last":
        return _list_word([_entry_word(key, value) for key, value in change])
    if name == "tail":
        cut, put = change
        return f"{cut}={put}"
    if name == "text":
        return f"={change}"
    return _list_word([str(number) for number in change])


def _list_word(words):
    return ",".join(words) if words else "-"


def _entry_word(key, value):
    return f"{key}:x" if value is None else f"{key}:{value}"


def read_change(kind, text):
    """The change with this word; InvalidText(0, 0) if there is none."""
    require(is_kind(kind), "kind")
    require(isinstance(text, str), "text")
    change = change_in(kind, text)
    if change is None:
        raise InvalidText(0, 0)
    return change


def change_in(kind, word):
    """The change with this word, None if there is none."""
    told = _told_in(kind[0], word)
    return told if is_change(kind, told) else None


def _told_in(name, text):
    # What has no such word becomes a value that is no change, mostly by a None.
    if name in ("sum", "peak"):
        return integer_in(text)
    if name == "last":
        return tuple([_entry_in(word) for word in _listed_in(text)])
    if name == "tail":
        cut, sign, put = text.partition("=")
        return (integer_in(cut), put) if sign else None
    if name == "text":
        return text[1:] if text.startswith("=") else None
    return tuple([integer_in(word) for word in _listed_in(text)])


def _listed_in(text):
    return [] if text == "-" else text.split(",")


def _entry_in(word):
    key, _, value = word.partition(":")
    if value == "x":
        return (integer_in(key), None)
    number = integer_in(value)
    # A pair with None would tell "x", so what is no integer makes no pair.
    return None if number is None else (integer_in(key), number)
