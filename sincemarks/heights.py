"""Heights of versions, and the bases by which each one reads the nearest higher."""
from sincemarks.chains import chain_of, holders_of, reads_by
from sincemarks.elders import elders_of
from sincemarks.historykinds import is_later_version
from sincemarks.kinds import is_natural
from sincemarks.usable import require


def is_heights(history, thing):
    """Whether thing has an integer from 1 on for each version of history from 1 on."""
    if not isinstance(thing, tuple) or len(thing) != len(history):
        return False
    return all([is_natural(height) for height in thing])


def require_heights(history, heights):
    """Refuse heights unless they are heights of history."""
    require(is_heights(history, heights), "heights")


def bases_by(history, heights):
    """For each version from 1 on, its nearest elder that is higher."""
    require_heights(history, heights)
    return tuple([_nearest_higher(history, heights, at) for at in range(1, len(history) + 1)])


def _nearest_higher(history, heights, version):
    own = heights[version - 1]
    above = [elder for elder in elders_of(history, version) if elder > 0]
    # The nearest of elders is the greatest; the first version is higher than all others.
    return max([0] + [elder for elder in above if heights[elder - 1] > own])


def heights_of(history, bases):
    """For each version from 1 on, the greatest reads of all, plus 1, less its own."""
    reads = reads_by(history, bases)
    return tuple([max(reads) + 1 - many for many in reads[1:]])


def records_of(history, heights, version):
    """The version and what stands higher than all below it on its path, upwards."""
    return chain_of(history, bases_by(history, heights), version)


def open_at(history, heights, version):
    """The set of the versions that are open at a version from 1 on."""
    require_heights(history, heights)
    require(is_later_version(history, version), "version")
    # What is open at a version holds its change.
    return holders_of(history, bases_by(history, heights), version)


def open_row(history, heights, version):
    """The heights of the versions that are open at a version from 1 on, as a row."""
    found = open_at(history, heights, version)
    return tuple(sorted([heights[at - 1] for at in found], reverse=True))
