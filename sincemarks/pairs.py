"""At which levels histories can be kept."""
from sincemarks.kinds import is_natural
from sincemarks.rownumbers import greatest_member
from sincemarks.usable import require
from sincemarks.weights import fits_level, forest_weight


def least_reach(history, width):
    """The least reach at which the history can be kept with this width, 0 without changes."""
    return greatest_member(width, forest_weight(history, width))


def least_width(history, reach):
    """The least width at which the history can be kept with this reach, 1 without changes."""
    require(is_natural(reach), "reach")
    width = 1
    while not fits_level(history, width, reach):
        width += 1
    return width


def pairs_of(history):
    """The pairs (width, least reach) from width 1 up to the first one with a least reach of at most 1."""
    pairs = [(1, least_reach(history, 1))]
    while pairs[-1][1] > 1:
        width = len(pairs) + 1
        pairs.append((width, least_reach(history, width)))
    return tuple(pairs)
