"""Of which sheets others are made."""
from sincemarks.baseskinds import require_plan
from sincemarks.chains import chain_in
from sincemarks.historykinds import is_later_version
from sincemarks.sheetfilling import require_sheets
from sincemarks.states import put_on, require_changes
from sincemarks.thens import put_together
from sincemarks.usable import require


def pieces_of(history, bases, version):
    """The versions of whose sheets, and its own change, the sheet of a version from 1 on is made."""
    require_plan(history, bases, "bases")
    require(is_later_version(history, version), "version")
    return _pieces(history, bases, version)


def _pieces(history, bases, version):
    # All of the chain is on the parent's path, so what is greater than the base is below it.
    chain = chain_in(bases, history[version - 1])
    return tuple(sorted([at for at in chain if at > bases[version - 1]]))


def made_sheet(kind, history, changes, bases, sheets, version):
    """The sheet of a version from 1 on, made from those of its pieces and its own change."""
    require_changes(kind, history, changes)
    require_plan(history, bases, "bases")
    require_sheets(kind, history, sheets)
    require(is_later_version(history, version), "version")
    return sheets_made(kind, history, changes, bases, sheets, (version,))[version - 1]


def sheets_made(kind, history, changes, bases, sheets, versions):
    """All sheets, after those of versions have been made one by one, each from the sheets as they then are."""
    made = list(sheets)
    for version in versions:
        pieces = put_on(kind, made, _pieces(history, bases, version))
        made[version - 1] = put_together(kind, (pieces, changes[version - 1]))
    return tuple(made)


def making_cost(history, bases, versions):
    """How many sheets are made for versions, and of how many pieces in all."""
    return (len(versions), sum([len(_pieces(history, bases, version)) for version in versions]))
