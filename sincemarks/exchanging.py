"""Branches exchanged for others of the same weight."""
from sincemarks.grafts import line_of, replaced
from sincemarks.historykinds import is_history
from sincemarks.kinds import is_natural
from sincemarks.usable import require
from sincemarks.weights import forest_weight, weight_of


def as_line(history, width, version):
    """The history with a line of the same weight in place of the branch of a version from 1 on."""
    return replaced(history, version, line_of(weight_of(history, width, version)))


def alike_within(width, one, other):
    """Whether two histories weigh the same, as forests."""
    one_weight, other_weight = forest_weights(width, one, other)
    return one_weight == other_weight


def forest_weights(width, one, other):
    """What two histories weigh, as forests; what is no width or no history is refused."""
    require(is_natural(width), "width")
    require(is_history(one), "one")
    require(is_history(other), "other")
    return (forest_weight(one, width), forest_weight(other, width))
