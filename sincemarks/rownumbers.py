"""Rows of at most width members, numbered in their order."""
from sincemarks.choosing import choose
from sincemarks.kinds import is_natural, is_number
from sincemarks.rows import is_row, stepped
from sincemarks.usable import least_from, require


def number_of(width, row):
    """How many rows of at most width members are less."""
    _require_row(width, row)
    return sum([_below(width - index, member) for index, member in enumerate(row)])


def _require_row(width, row):
    require(is_natural(width), "width")
    require(is_row(row) and len(row) <= width, "row")


def _below(places, member):
    """How many rows of at most so many members have all of them less than this one."""
    return choose(member + places - 1, places)


def row_of(width, number):
    """The row of at most width members that has this number."""
    require(is_natural(width), "width")
    require(is_number(number), "number")
    row = []
    left = number
    while left > 0:
        places = width - len(row)
        row.append(_greatest_member(places, left))
        left -= _below(places, row[-1])
    return tuple(row)


def _greatest_member(places, number):
    """The greatest member with no more rows below it than number, which is from 1 on."""
    high = 1
    while _below(places, high + 1) <= number:
        high = 2 * high
    # All members from the first one on that is too great are too great.
    return least_from(1, high, lambda member: _below(places, member + 1) > number)


def greatest_member(width, number):
    """The greatest member of the row that has this number within width, 0 for the row ()."""
    return max((0,) + row_of(width, number))


def next_row(width, row):
    """The row of at most width members whose number is one more."""
    _require_row(width, row)
    return stepped(width, 1, row)
