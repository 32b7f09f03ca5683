"""The checker of papers that tell whether bounds can be kept."""
from sincemarks.baseskinds import is_plan
from sincemarks.boundkinds import require_bounds
from sincemarks.chains import reads_by, writes_by
from sincemarks.errors import InvalidPaper
from sincemarks.historykinds import is_later_version
from sincemarks.keeping import first_above
from sincemarks.rows import is_row
from sincemarks.walls import is_above, rows_on


def lets_keep(history, bounds, thing):
    """True for a plan, False for a wall; InvalidPaper tells why thing is no paper."""
    require_bounds(history, bounds)
    if not isinstance(thing, tuple) or len(thing) != 2 or thing[0] not in ("plan", "wall"):
        raise InvalidPaper("shape", -1)
    name, told = thing
    fault = _plan_fault(history, bounds, told) if name == "plan" else _entries_fault(history, bounds, told)
    if fault is not None:
        word, at = fault
        raise InvalidPaper(word, at)
    return name == "plan"


def _plan_fault(history, bounds, told):
    if not is_plan(history, told):
        return ("plan", 1)
    return first_above(bounds, writes_by(history, told), reads_by(history, told))


def _entries_fault(history, bounds, told):
    if not isinstance(told, tuple) or len(told) == 0:
        return ("wall", 1)
    versions = ()
    for index, entry in enumerate(told):
        if not _is_entry(history, versions, entry):
            return ("entry", index)
        version, row = entry
        versions = (version,) + versions
        # The rows ahead are those of the walk, so this one is to be its last row so far.
        if not is_row(row) or row != rows_on(history, bounds, versions)[-1][1]:
            return ("row", index)
    if not any([is_above(bounds, row) for _, row in told]):
        return ("roof", -1)
    return None


def _is_entry(history, versions, thing):
    """Whether thing is a pair whose first is a version less than all of versions."""
    if not isinstance(thing, tuple) or len(thing) != 2 or not is_later_version(history, thing[0]):
        return False
    return len(versions) == 0 or thing[0] < versions[0]
