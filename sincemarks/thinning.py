"""Books from which versions are left out, and versions with which bounds can be kept."""
from sincemarks.boundkinds import require_bounds
from sincemarks.cuttings import left_on
from sincemarks.historykinds import all_later, are_versions
from sincemarks.states import changes_on, require_changes
from sincemarks.usable import require
from sincemarks.walls import walled


def thinned(kind, history, changes, bounds, versions):
    """The history, changes and bounds if the first and versions alone stay."""
    require_changes(kind, history, changes)
    require_bounds(history, bounds)
    require(are_versions(history, versions), "versions")
    roof, pairs = bounds
    kept = tuple([pairs[version - 1] for version in versions])
    return (left_on(history, versions), changes_on(kind, history, changes, versions), (roof, kept))


def fitting(history, bounds):
    """The set into which each version, from 1 on, is taken if it makes no wall with those taken ahead of it."""
    require_bounds(history, bounds)
    taken = ()
    for version in all_later(history):
        if not walled(history, bounds, taken + (version,)):
            taken = taken + (version,)
    return taken
