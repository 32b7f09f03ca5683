"""Integers as words."""

DIGITS = "0123456789"


def integer_in(word):
    """The integer that Python writes as this word, None if there is none."""
    digits = word.removeprefix("-")
    if digits == "" or not all([sign in DIGITS for sign in digits]):
        return None
    # Python writes no zero in front of other digits, and no sign before 0.
    if digits[0] == "0" and word != "0":
        return None
    return int(word)
