"""States of versions, and what leads from one version to another."""
from sincemarks.cuttings import nearest_left
from sincemarks.elders import elders_of, meet_of, path_of
from sincemarks.historykinds import are_versions, is_version
from sincemarks.thens import put_together
from sincemarks.usable import require
from sincemarks.worthkinds import are_changes, is_kind


def require_changes(kind, history, changes):
    """Refuse kind or changes unless changes has one of kind for each version."""
    require(is_kind(kind), "kind")
    require(are_changes(kind, changes) and len(changes) == len(history), "changes")


def state_of(kind, history, changes, version):
    """The changes on the path of version, put together."""
    require_changes(kind, history, changes)
    require(is_version(history, version), "version")
    return put_on(kind, changes, path_of(history, version))


def states_of(kind, history, changes):
    """The states of all versions, from 0 on."""
    require_changes(kind, history, changes)
    versions = range(len(history) + 1)
    return tuple([put_on(kind, changes, path_of(history, at)) for at in versions])


def between(kind, history, changes, one, other):
    """The changes that lead from one down to other, put together."""
    require_changes(kind, history, changes)
    require(is_version(history, one), "one")
    require(_leads(history, one, other), "other")
    before = path_of(history, one)
    added = [at for at in path_of(history, other) if at not in before]
    return put_on(kind, changes, added)


def taken_over(kind, history, changes, one, other):
    """The changes that lead to other from where it and one meet, put together."""
    require_changes(kind, history, changes)
    require(is_version(history, one), "one")
    require(is_version(history, other), "other")
    return between(kind, history, changes, meet_of(history, one, other), other)


def changes_on(kind, history, changes, versions):
    """The changes of the history that is left on versions."""
    require_changes(kind, history, changes)
    require(are_versions(history, versions), "versions")
    parents = [nearest_left(history, versions, version) for version in versions]
    ways = list(zip(parents, versions))
    return tuple([between(kind, history, changes, one, other) for one, other in ways])


def _leads(history, one, other):
    if not is_version(history, other):
        return False
    return one == other or one in elders_of(history, other)


def put_on(kind, changes, versions):
    """The changes of versions, in their sequence, put together."""
    return put_together(kind, tuple([changes[version - 1] for version in versions]))
