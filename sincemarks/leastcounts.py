"""The least counts of right stores of lines: how often, at least, changes are written."""
from sincemarks.kinds import is_natural, is_number
from sincemarks.rownumbers import greatest_member
from sincemarks.usable import require


def sorted_least(many, reach):
    """The least writes of many changes by reads of at most reach, ascending."""
    _require_counts(many, reach)
    return tuple([least_greatest(index, reach) for index in range(1, many + 1)])


def least_sum(many, reach):
    """The sum of these writes."""
    return sum(sorted_least(many, reach))


def least_greatest(many, reach):
    """The greatest of these writes, 0 for no changes."""
    _require_counts(many, reach)
    # The rows without a member above u have the numbers below C(u + reach, reach).
    return greatest_member(reach, many)


def _require_counts(many, reach):
    require(is_number(many), "many")
    require(is_natural(reach), "reach")
