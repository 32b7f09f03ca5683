"""Integers as words, and the words of lines."""
from sincemarks.errors import InvalidText

DIGITS = "0123456789"


def integer_in(word):
    """The integer that Python writes as this word, None if there is none."""
    digits = word.removeprefix("-")
    if digits == "" or not all([sign in DIGITS for sign in digits]):
        return None
    # Python writes no zero in front of other digits, and no sign before 0.
    if digits[0] == "0" and word != "0":
        return None
    return int(word)


def integers_behind(name, text, line):
    """The words of a line behind its first one, name: integers, or None for other words."""
    words = text.split(" ")
    if words[0] != name:
        raise InvalidText(line, 0)
    return [integer_in(word) for word in words[1:]]


def numbers_line(name, numbers):
    """The line of a name and numbers."""
    return " ".join([name] + [str(number) for number in numbers])


def require_each(things, many, is_one, first):
    """Refuse the first of things, told by words from the field first on, that is not as it has to be.

    There have to be many of them; is_one tells it for an index and a thing.
    """
    for index, thing in enumerate(things):
        if index >= many or not is_one(index, thing):
            raise InvalidText(0, first + index)
    if len(things) < many:
        raise InvalidText(0, first + len(things))


def are_lines(thing):
    """Whether thing is a tuple of strings."""
    return isinstance(thing, tuple) and all([isinstance(text, str) for text in thing])


def read_at(lines, index, read):
    """What a reader of one line reads in the line with this index; InvalidText tells the index, too."""
    if index >= len(lines):
        raise InvalidText(index, 0)
    try:
        return read(lines[index])
    except InvalidText as wrong:
        raise InvalidText(index, wrong.field) from None
