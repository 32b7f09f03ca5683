"""Histories hung below versions."""
from sincemarks.branches import branch_of
from sincemarks.cuttings import left_on
from sincemarks.elders import parent_of
from sincemarks.historykinds import is_history, is_later_version, is_version
from sincemarks.kinds import is_number
from sincemarks.usable import require


def line_of(many):
    """The line of many changes."""
    require(is_number(many), "many")
    return tuple(range(many))


def beside(one, other):
    """The history one, with other hung below its first version."""
    require(is_history(one), "one")
    require(is_history(other), "other")
    return _hung(one, 0, other)


def grafted(history, version, other):
    """The history, with other hung below version."""
    require(is_version(history, version), "version")
    require(is_history(other), "other")
    return _hung(history, version, other)


def replaced(history, version, other):
    """The history in which other takes the place of the branch of version."""
    require(is_later_version(history, version), "version")
    require(is_history(other), "other")
    branch = branch_of(history, version)
    others = [at for at in range(1, len(history) + 1) if at not in branch]
    # The parent keeps its number: all that is taken away comes later.
    return _hung(left_on(history, tuple(others)), parent_of(history, version), other)


def _hung(history, version, other):
    many = len(history)
    behind = [version if parent == 0 else parent + many for parent in other]
    return history + tuple(behind)
