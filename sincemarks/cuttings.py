"""Histories from which versions are left out."""
from sincemarks.branches import branch_of
from sincemarks.elders import elders_of
from sincemarks.historykinds import are_versions, is_later_version
from sincemarks.usable import require


def nearest_left(history, versions, version):
    """The nearest elder of a version from 1 on that is in versions, or 0."""
    for elder in elders_of(history, version):
        if elder in versions:
            return elder
    return 0


def left_on(history, versions):
    """The history of the first and versions alone, numbered anew."""
    require(are_versions(history, versions), "versions")
    numbers = {version: index + 1 for index, version in enumerate(versions)}
    numbers[0] = 0
    return tuple([numbers[nearest_left(history, versions, version)] for version in versions])


def left_out(history, version):
    """The history without a version from 1 on."""
    require(is_later_version(history, version), "version")
    others = [at for at in range(1, len(history) + 1) if at != version]
    return left_on(history, tuple(others))


def branch_alone(history, version):
    """The history of the first and the branch of a version from 1 on."""
    require(is_later_version(history, version), "version")
    return left_on(history, branch_of(history, version))
