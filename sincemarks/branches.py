"""What lies below the versions of a history."""
from sincemarks.elders import is_elder
from sincemarks.historykinds import is_version
from sincemarks.usable import require


def children_of(history, version):
    """The set of the versions whose parent this one is."""
    require(is_version(history, version), "version")
    return tuple([index + 1 for index, parent in enumerate(history) if parent == version])


def branch_of(history, version):
    """The set of the version and all versions below it."""
    require(is_version(history, version), "version")
    later = range(version + 1, len(history) + 1)
    return (version,) + tuple([at for at in later if is_elder(history, version, at)])


def leaves_of(history):
    """The set of the versions with none below them."""
    return tuple([version for version in range(len(history) + 1) if version not in history])


def is_line(history):
    """Whether each version is made from the one before it."""
    return history == tuple(range(len(history)))
