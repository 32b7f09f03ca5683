"""What sheets are worth, and what versions give from the sheets that they read."""
from sincemarks.errors import Unserved
from sincemarks.faults import manner_at, require_right
from sincemarks.historykinds import is_version
from sincemarks.kinds import is_set
from sincemarks.states import put_on, require_changes
from sincemarks.storekinds import require_store
from sincemarks.thens import put_together
from sincemarks.usable import require
from sincemarks.worthkinds import are_changes, is_kind, need_of

# The manners that serve each need.
SERVING = {"any": ("any", "once", "order"), "once": ("once", "order"), "order": ("order",)}


def sheet_worth(kind, changes, sheet):
    """The changes of a sheet, put together in ascending sequence."""
    require(is_kind(kind), "kind")
    require(are_changes(kind, changes), "changes")
    require(is_set(sheet) and all([1 <= change <= len(changes) for change in sheet]), "sheet")
    return put_on(kind, changes, sheet)


def answer_of(kind, history, changes, store, version):
    """The worths of the sheets that a version reads, put together by their ends."""
    require_changes(kind, history, changes)
    require_store(history, store)
    require(is_version(history, version), "version")
    require_right(history, store)
    if manner_at(history, store, version) not in SERVING[need_of(kind)]:
        raise Unserved(version)
    sheets, read = store
    ends = sorted([(sheets[number][-1], number) for number in read[version]])
    worths = [put_on(kind, changes, sheets[number]) for _, number in ends]
    return put_together(kind, tuple(worths))
