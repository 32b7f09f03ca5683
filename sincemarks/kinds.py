"""The plain kinds of values: integers, numbers, sets, letters."""

LETTERS = "abcdefghijklmnopqrstuvwxyz"


def is_integer(thing):
    """Whether thing is an int, but no bool."""
    return isinstance(thing, int) and not isinstance(thing, bool)


def is_number(thing):
    """Whether thing is an integer from 0 on."""
    return is_integer(thing) and thing >= 0


def is_natural(thing):
    """Whether thing is an integer from 1 on."""
    return is_integer(thing) and thing >= 1


def is_set(thing):
    """Whether thing is an ascending tuple of numbers, without duplicates."""
    if not isinstance(thing, tuple) or not all([is_number(k) for k in thing]):
        return False
    return all([low < high for low, high in zip(thing, thing[1:])])


def is_letters(thing):
    """Whether thing is a string of the characters a to z alone."""
    return isinstance(thing, str) and all([sign in LETTERS for sign in thing])
