"""Which versions cannot be given when sheets are lost."""
from sincemarks.baseskinds import require_plan
from sincemarks.chains import chain_in, readers_of
from sincemarks.historykinds import all_later, are_versions
from sincemarks.kinds import is_number
from sincemarks.usable import require


def spoiled_by(history, bases, versions):
    """The set of the versions whose chain has one of versions."""
    require_plan(history, bases, "bases")
    require(are_versions(history, versions), "versions")
    return tuple([at for at in all_later(history) if _has_one_of(chain_in(bases, at), versions)])


def _has_one_of(chain, versions):
    return any([version in versions for version in chain])


def most_spoiled(history, bases, many):
    """The greatest number of versions that are spoiled by at most many."""
    return len(spoiled_by(history, bases, worst_lost(history, bases, many)))


def worst_lost(history, bases, many):
    """A set of at most many versions by which the most are spoiled."""
    require_plan(history, bases, "bases")
    require(is_number(many), "many")
    # Each version reads just one full sheet, so that the readers of these count apart, and all others read less.
    full = [version for version in all_later(history) if bases[version - 1] == 0]
    ranked = sorted([(-len(readers_of(history, bases, version)), version) for version in full])
    return tuple(sorted([version for _, version in ranked[:many]]))
