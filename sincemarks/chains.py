"""The chains of bases, and the stores that bases make."""
from sincemarks.baseskinds import require_bases
from sincemarks.elders import path_of
from sincemarks.historykinds import is_later_version, is_version
from sincemarks.storecounts import reads_of, writes_of
from sincemarks.usable import require


def chain_of(history, bases, version):
    """The version, its base, the base of this one, and so on, without 0."""
    require_bases(history, bases)
    require(is_version(history, version), "version")
    return chain_in(bases, version)


def chain_in(bases, version):
    """The chain of a version, of bases that are known to be such."""
    chain = []
    at = version
    while at > 0:
        chain.append(at)
        at = bases[at - 1]
    return tuple(chain)


def sheet_of(history, bases, version):
    """The path of a version from 1 on without that of its base."""
    require_bases(history, bases)
    require(is_later_version(history, version), "version")
    return sheet_in(history, bases, version)


def sheet_in(history, bases, version):
    """The sheet of a version from 1 on, of bases that are known to be such."""
    # What is on the path, behind the base, is not on the base's own path.
    return tuple([at for at in path_of(history, version) if at > bases[version - 1]])


def reads_by(history, bases):
    """How many sheets each version reads, from version 0 on."""
    return reads_of(history, store_by(history, bases))


def writes_by(history, bases):
    """By how many sheets each change is held, from change 1 on."""
    return writes_of(history, store_by(history, bases))


def holders_of(history, bases, change):
    """The set of the versions whose sheets hold a change from 1 on."""
    require_bases(history, bases)
    require(is_later_version(history, change), "change")
    later = range(change, len(history) + 1)
    return tuple([at for at in later if change in sheet_in(history, bases, at)])


def readers_of(history, bases, version):
    """The set of the versions whose chain has a version from 1 on."""
    require_bases(history, bases)
    require(is_later_version(history, version), "version")
    later = range(version, len(history) + 1)
    return tuple([at for at in later if version in chain_in(bases, at)])


def store_by(history, bases):
    """The store that bases make: the sheet of version v has the number v - 1."""
    require_bases(history, bases)
    sheets = [sheet_in(history, bases, version) for version in range(1, len(history) + 1)]
    chains = [chain_in(bases, version) for version in range(len(history) + 1)]
    read = [tuple(sorted([at - 1 for at in chain])) for chain in chains]
    return (tuple(sheets), tuple(read))
