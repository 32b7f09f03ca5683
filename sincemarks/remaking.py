"""Lost sheets made again."""
from sincemarks.baseskinds import require_plan
from sincemarks.historykinds import are_versions
from sincemarks.sheetfilling import require_sheets
from sincemarks.sheetpieces import making_cost, sheets_made
from sincemarks.states import require_changes
from sincemarks.usable import require


def remake_cost(history, bases, versions):
    """How many sheets are made again, and of how many pieces in all."""
    require_plan(history, bases, "bases")
    require(are_versions(history, versions), "versions")
    return making_cost(history, bases, versions)


def remade(kind, history, changes, bases, sheets, versions):
    """The sheets, after those of versions have been made again one by one."""
    require_changes(kind, history, changes)
    require_plan(history, bases, "bases")
    require_sheets(kind, history, sheets)
    require(are_versions(history, versions), "versions")
    return sheets_made(kind, history, changes, bases, sheets, versions)
