"""The plain kinds of values: integers, numbers, sets, letters."""

LETTERS = "abcdefghijklmnopqrstuvwxyz"


def is_integer(thing):
    """Whether thing is an int, but no bool."""
    return isinstance(thing, int) and not isinstance(thing, bool)


def is_number(thing):
    """Whether thing is an integer from 0 on."""
    return is_integer(thing) and thing >= 0


def is_natural(thing):
    """Whether thing is an integer from 1 on."""
    return is_integer(thing) and thing >= 1


def are_numbers(thing):
    """Whether thing is a tuple of numbers."""
    return isinstance(thing, tuple) and all([is_number(k) for k in thing])


def is_set(thing):
    """Whether thing is an ascending tuple of numbers, without duplicates."""
    return are_numbers(thing) and all([low < high for low, high in zip(thing, thing[1:])])


def is_letters(thing):
    """Whether thing is a string of the characters a to z alone."""
    return isinstance(thing, str) and all([sign in LETTERS for sign in thing])
