"""By how much bounds have to be raised, and up to where at one version."""
from sincemarks.boundkinds import MOST, require_bounds
from sincemarks.boundmaking import one_bound
from sincemarks.historykinds import is_later_version
from sincemarks.usable import least_from, require
from sincemarks.walks import can_keep, top_of


def margin_of(history, bounds):
    """The top less the roof, 0 without changes."""
    top = top_of(history, bounds)
    return top - bounds[0] if len(history) > 0 else 0


def lifted_reach(history, bounds, version):
    """The least reach from its own on with which, at this version, the bounds can be kept; None if there is none."""
    width, reach = _pair_at(history, bounds, version)
    return least_from(
        reach, bounds[0], lambda more: can_keep(history, one_bound(history, bounds, version, width, more))
    )


def lifted_width(history, bounds, version):
    """The least width from its own on with which, at this version, the bounds can be kept; None if there is none."""
    width, reach = _pair_at(history, bounds, version)
    return least_from(
        width, MOST, lambda more: can_keep(history, one_bound(history, bounds, version, more, reach))
    )


def _pair_at(history, bounds, version):
    require_bounds(history, bounds)
    require(is_later_version(history, version), "version")
    return bounds[1][version - 1]
