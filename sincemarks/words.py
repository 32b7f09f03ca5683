"""Integers as words, and the words of lines."""
from sincemarks.errors import InvalidText

DIGITS = "0123456789"


def integer_in(word):
    """The integer that Python writes as this word, None if there is none."""
    digits = word.removeprefix("-")
    if digits == "" or not all([sign in DIGITS for sign in digits]):
        return None
    # Python writes no zero in front of other digits, and no sign before 0.
    if digits[0] == "0" and word != "0":
        return None
    return int(word)


def integers_behind(name, text, line):
    """The words of a line behind its first one, name: integers, or None for other words."""
    words = text.split(" ")
    if words[0] != name:
        raise InvalidText(line, 0)
    return [integer_in(word) for word in words[1:]]


def numbers_line(name, numbers):
    """The line of a name and numbers."""
    return " ".join([name] + [str(number) for number in numbers])
