"""Numbers of rows joined within a width."""
from sincemarks.kinds import are_numbers, is_natural, is_number
from sincemarks.rownumbers import number_of, row_of
from sincemarks.usable import require


def joined(width, one, other):
    """Both numbers joined within width."""
    require(is_natural(width), "width")
    require(is_number(one), "one")
    require(is_number(other), "other")
    return joined_all(width, (one, other))


def joined_all(width, numbers):
    """All numbers of a tuple joined within width, 0 if there are none."""
    require(is_natural(width), "width")
    require(are_numbers(numbers), "numbers")
    rows = [row_of(width, number) for number in numbers]
    return number_of(width, top_merged(width, rows))


def joined_many(width, number, many):
    """A number joined so many times within width, 0 if many is 0."""
    require(is_natural(width), "width")
    require(is_number(number), "number")
    require(is_number(many), "many")
    # Of more than width equal rows no further member is kept.
    return number_of(width, top_merged(width, [row_of(width, number)] * min(many, width)))


def top_merged(width, rows):
    """The greatest members of all rows, as many as width, in one row."""
    return tuple(sorted([member for row in rows for member in row], reverse=True)[:width])
