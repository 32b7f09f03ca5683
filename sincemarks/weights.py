"""What versions and histories weigh within a width."""
from sincemarks.branches import children_of
from sincemarks.choosing import capacity
from sincemarks.historykinds import is_later_version
from sincemarks.joining import joined_all
from sincemarks.kinds import is_natural
from sincemarks.usable import require


def weight_of(history, width, version):
    """The weight of a version from 1 on."""
    require(is_natural(width), "width")
    require(is_later_version(history, version), "version")
    return weights_of(history, width)[version - 1]


def weights_of(history, width):
    """The weights of all versions, from version 1 on."""
    require(is_natural(width), "width")
    weights = [0] * len(history)
    for version in range(len(history), 0, -1):
        below = _child_weights(history, weights, version)
        weights[version - 1] = 1 + joined_all(width, below)
    return tuple(weights)


def _child_weights(history, weights, version):
    return tuple([weights[child - 1] for child in children_of(history, version)])


def forest_weight(history, width):
    """The weight of the history, as a forest."""
    return joined_all(width, _child_weights(history, weights_of(history, width), 0))


def fits_level(history, width, reach):
    """Whether the history can be kept at the level (width, reach)."""
    return forest_weight(history, width) < capacity(width, reach)
