"""Bounds made level, raised, and changed at one version; their floors."""
from sincemarks.boundkinds import MOST, is_up_to, require_bounds
from sincemarks.historykinds import is_later_version
from sincemarks.kinds import is_integer
from sincemarks.usable import require


def level_bounds(history, width, reach):
    """The bounds with the same width and reach for all versions, and this reach as the roof."""
    require(is_up_to(MOST, width), "width")
    require(is_up_to(MOST, reach), "reach")
    return (reach, ((width, reach),) * len(history))


def floors_of(history, bounds):
    """For each version from 1 on, the roof plus 1, less its reach."""
    require_bounds(history, bounds)
    roof, pairs = bounds
    return tuple([roof + 1 - reach for _, reach in pairs])


def raised_bounds(history, bounds, many):
    """The bounds with the roof and all reaches greater by many."""
    require_bounds(history, bounds)
    roof, pairs = bounds
    # No reach is above the roof, so of all of them only the least may become too small.
    least = min([roof] + [reach for _, reach in pairs])
    require(is_integer(many) and least + many >= 1 and roof + many <= MOST, "many")
    return (roof + many, tuple([(width, reach + many) for width, reach in pairs]))


def one_bound(history, bounds, version, width, reach):
    """The bounds with another width and reach for a version from 1 on."""
    require_bounds(history, bounds)
    require(is_later_version(history, version), "version")
    require(is_up_to(MOST, width), "width")
    roof, pairs = bounds
    require(is_up_to(roof, reach), "reach")
    return (roof, pairs[:version - 1] + ((width, reach),) + pairs[version:])
