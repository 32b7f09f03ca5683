"""The way from a version up to the first one."""
from sincemarks.historykinds import is_later_version, is_version
from sincemarks.usable import require


def many_of(history):
    """How many changes the history has."""
    return len(history)


def parent_of(history, version):
    """The parent of a version from 1 on."""
    require(is_later_version(history, version), "version")
    return history[version - 1]


def elders_of(history, version):
    """The elders, the parent first, 0 last."""
    require(is_version(history, version), "version")
    elders = []
    at = version
    while at > 0:
        at = history[at - 1]
        elders.append(at)
    return tuple(elders)


def path_of(history, version):
    """The set of the version and its elders, without 0."""
    upwards = (version,) + elders_of(history, version)
    return tuple(sorted([at for at in upwards if at > 0]))


def is_elder(history, one, other):
    """Whether one is an elder of other."""
    require(is_version(history, one), "one")
    require(is_version(history, other), "other")
    return one in elders_of(history, other)


def meet_of(history, one, other):
    """The greatest version that is, for both, the version itself or an elder."""
    require(is_version(history, one), "one")
    require(is_version(history, other), "other")
    above_one = (one,) + elders_of(history, one)
    above_other = (other,) + elders_of(history, other)
    return max([version for version in above_one if version in above_other])


def depth_of(history, version):
    """How many changes lead to the version."""
    return len(elders_of(history, version))


def depth_in(history):
    """The greatest depth of all versions."""
    return max([depth_of(history, version) for version in range(len(history) + 1)])
