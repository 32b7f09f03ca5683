"""What a store is."""
from sincemarks.historykinds import are_versions
from sincemarks.kinds import is_set
from sincemarks.usable import require


def is_sheet(history, thing):
    """Whether thing is a nonempty set of versions of history from 1 on."""
    return are_versions(history, thing) and len(thing) > 0


def are_sheets(history, thing):
    """Whether thing is a tuple of sheets."""
    return isinstance(thing, tuple) and all([is_sheet(history, sheet) for sheet in thing])


def is_set_below(bound, thing):
    """Whether thing is a set of numbers below bound."""
    return is_set(thing) and all([number < bound for number in thing])


def store_fault(history, thing):
    """The first (word, at) for which thing is no store of history, None for a store."""
    if not isinstance(thing, tuple) or len(thing) != 2:
        return ("shape", -1)
    sheets, read = thing
    if not isinstance(sheets, tuple) or not isinstance(read, tuple):
        return ("shape", -1)
    for number, sheet in enumerate(sheets):
        if not is_sheet(history, sheet):
            return ("sheet", number)
    if len(read) != len(history) + 1:
        return ("many", -1)
    for version, numbers in enumerate(read):
        if not is_set_below(len(sheets), numbers):
            return ("read", version)
    return None


def is_store(history, thing):
    """Whether thing is a store of history, right or not."""
    return store_fault(history, thing) is None


def require_store(history, store):
    """Refuse store unless it is a store of history."""
    require(is_store(history, store), "store")
