"""Rows of heights: merged, stepped, compared."""
from sincemarks.kinds import is_natural
from sincemarks.usable import require


def is_row(thing):
    """Whether thing is a tuple of integers from 1 on, each at least the next one."""
    if not isinstance(thing, tuple) or not all([is_natural(member) for member in thing]):
        return False
    return all([member >= following for member, following in zip(thing, thing[1:])])


def merged(rows):
    """All members of a tuple of rows, in one row."""
    require(isinstance(rows, tuple) and all([is_row(row) for row in rows]), "rows")
    return tuple(sorted([member for row in rows for member in row], reverse=True))


def stepped(width, floor, row):
    """The row to which the step with this width and floor leads from row."""
    require(is_natural(width), "width")
    require(is_natural(floor), "floor")
    require(is_row(row), "row")
    # Fewer than width members are as high exactly if the one at place width - 1 is less.
    height = floor if len(row) < width else max(floor, row[width - 1] + 1)
    return tuple([member for member in row if member >= height] + [height])


def unlike_at(one, other):
    """The greatest value of which two rows have not equally many members, 0 for equal rows."""
    require(is_row(one), "one")
    require(is_row(other), "other")
    places = max(len(one), len(other))
    for mine, theirs in zip(padded(one, places), padded(other, places)):
        # Ahead of the first place where they differ, both have the same members.
        if mine != theirs:
            return max(mine, theirs)
    return 0


def padded(row, places):
    """The row, with 0 put behind it up to so many places."""
    return row + (0,) * (places - len(row))
