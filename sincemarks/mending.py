"""Changes put right late, in all sheets that hold them."""
from sincemarks.baseskinds import require_plan
from sincemarks.chains import holders_of
from sincemarks.historykinds import is_later_version
from sincemarks.sheetfilling import require_sheets
from sincemarks.sheetpieces import making_cost, sheets_made
from sincemarks.states import require_changes
from sincemarks.usable import require
from sincemarks.worthkinds import is_change


def mend_order(history, bases, version):
    """The set of the holders of the change of a version from 1 on."""
    require_plan(history, bases, "bases")
    require(is_later_version(history, version), "version")
    return holders_of(history, bases, version)


def mend_cost(history, bases, version):
    """How many holders there are, and of how many pieces their sheets are made."""
    return making_cost(history, bases, mend_order(history, bases, version))


def mended(kind, history, changes, bases, sheets, version, change):
    """The changes and the sheets after change has taken the place of that of a version from 1 on."""
    require_changes(kind, history, changes)
    require_plan(history, bases, "bases")
    require_sheets(kind, history, sheets)
    require(is_later_version(history, version), "version")
    require(is_change(kind, change), "change")
    put = changes[:version - 1] + (change,) + changes[version:]
    holders = holders_of(history, bases, version)
    return (put, sheets_made(kind, history, put, bases, sheets, holders))
