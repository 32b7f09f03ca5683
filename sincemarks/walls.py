"""The walk on sets of versions, and the walls among these."""
from sincemarks.boundkinds import require_bounds
from sincemarks.boundmaking import floors_of
from sincemarks.historykinds import all_later, are_versions
from sincemarks.rows import merged, stepped
from sincemarks.usable import require


def rows_on(history, bounds, versions):
    """The pairs (version, row) of the walk on a set of versions, the greatest version first."""
    require_bounds(history, bounds)
    require(are_versions(history, versions), "versions")
    pairs = bounds[1]
    floors = floors_of(history, bounds)
    below = {version: [] for version in (0,) + versions}
    walk = []
    for version in reversed(versions):
        width = pairs[version - 1][0]
        row = stepped(width, floors[version - 1], merged(tuple(below[version])))
        walk.append((version, row))
        below[_nearest_in(history, below, version)].append(row)
    return tuple(walk)


def _nearest_in(history, chosen, version):
    at = history[version - 1]
    while at not in chosen:
        at = history[at - 1]
    return at


def is_above(bounds, row):
    """Whether a row has a member above the roof."""
    return max(row) > bounds[0]


def walled(history, bounds, versions):
    """Whether a set of versions is a wall."""
    walk = rows_on(history, bounds, versions)
    return any([is_above(bounds, row) for _, row in walk])


def wall_in(history, bounds):
    """A least wall, None if the bounds can be kept."""
    left = all_later(history)
    if not walled(history, bounds, left):
        return None
    for version in range(len(history), 0, -1):
        others = tuple([at for at in left if at != version])
        if walled(history, bounds, others):
            left = others
    return left
