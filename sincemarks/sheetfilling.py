"""The worths of the sheets that plans make."""
from sincemarks.baseskinds import require_plan
from sincemarks.chains import sheet_in
from sincemarks.historykinds import all_later
from sincemarks.states import put_on, require_changes
from sincemarks.usable import require
from sincemarks.worthkinds import are_changes


def filled(kind, history, changes, bases):
    """The worths of the sheets of the versions from 1 on."""
    require_changes(kind, history, changes)
    require_plan(history, bases, "bases")
    return tuple([put_on(kind, changes, sheet_in(history, bases, version)) for version in all_later(history)])


def require_sheets(kind, history, sheets):
    """Refuse sheets unless there is a change of kind for each version, right or not."""
    require(are_changes(kind, sheets) and len(sheets) == len(history), "sheets")
