"""The rows of the walk, and how they are renewed from one version upwards."""
from sincemarks.boundkinds import require_bounds
from sincemarks.boundmaking import floors_of
from sincemarks.branches import children_of
from sincemarks.historykinds import is_version
from sincemarks.rows import is_row, merged, stepped
from sincemarks.usable import require
from sincemarks.walks import rows_of


def fresh_rows(history, bounds):
    """The rows of the walk, from version 1 on."""
    return rows_of(history, bounds)


def renewed(history, bounds, rows, version):
    """The rows after those from version upwards are stepped anew, as far as they change, and which were looked at."""
    require_bounds(history, bounds)
    require(_are_rows(rows) and len(rows) == len(history), "rows")
    require(is_version(history, version), "version")
    now = list(rows)
    way = []
    at = version
    while at > 0:
        row = _step_at(history, bounds, now, at)
        way.append(at)
        if row == now[at - 1]:
            break
        now[at - 1] = row
        at = history[at - 1]
    return (tuple(now), tuple(way))


def _are_rows(thing):
    return isinstance(thing, tuple) and all([is_row(row) for row in thing])


def _step_at(history, bounds, rows, version):
    """The row of the step at a version from 1 on, from the rows that its children have."""
    below = tuple([rows[child - 1] for child in children_of(history, version)])
    width = bounds[1][version - 1][0]
    return stepped(width, floors_of(history, bounds)[version - 1], merged(below))
