"""Sheets by one plan made those by another one."""
from sincemarks.baseskinds import require_plan
from sincemarks.historykinds import all_later
from sincemarks.sheetfilling import require_sheets
from sincemarks.sheetpieces import sheets_made
from sincemarks.states import require_changes


def rewritten(history, one, other):
    """The set of the versions whose bases by two plans differ."""
    require_plan(history, one, "one")
    require_plan(history, other, "other")
    return tuple([version for version in all_later(history) if one[version - 1] != other[version - 1]])


def shifted(kind, history, changes, one, sheets, other):
    """The sheets by one plan, after those that the other plan makes otherwise have been made by it."""
    require_changes(kind, history, changes)
    require_plan(history, one, "one")
    require_sheets(kind, history, sheets)
    versions = rewritten(history, one, other)
    return sheets_made(kind, history, changes, other, sheets, versions)
