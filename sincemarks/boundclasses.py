"""Histories with bounds that can be kept, as objects."""
from sincemarks.boundkinds import require_bounds
from sincemarks.boundmaking import level_bounds, one_bound
from sincemarks.historykinds import is_history, is_later_version
from sincemarks.keeping import keeps
from sincemarks.usable import require
from sincemarks.walks import can_keep, plan_for, require_kept, rows_of, top_of


class Kept:
    """A history with bounds that can be kept, and that may be changed as long as they can."""

    def __init__(self, history, bounds):
        require(is_history(history), "history")
        require_bounds(history, bounds)
        self._history = history
        self._take(bounds)

    def _take(self, bounds):
        require_kept(self._history, bounds)
        self._bounds = bounds
        self._rows = rows_of(self._history, bounds)

    def __len__(self):
        return len(self._history)

    def __iter__(self):
        return iter(self._rows)

    def __eq__(self, other):
        return isinstance(other, Kept) and self._history == other._history and self._bounds == other._bounds

    def as_told(self):
        """The history and the bounds as they are now."""
        return (self._history, self._bounds)

    def plan(self):
        """A plan that keeps the bounds."""
        return plan_for(self._history, self._bounds)

    def row_at(self, version):
        """The row of the walk at a version from 1 on."""
        require(is_later_version(self._history, version), "version")
        return self._rows[version - 1]

    def slack(self):
        """The roof less the top."""
        return self._bounds[0] - top_of(self._history, self._bounds)

    def kept_by(self, store):
        """Whether the store keeps the bounds."""
        return keeps(self._history, self._bounds, store)

    def may(self, version, width, reach):
        """Whether the bounds could be kept with this width and reach for a version from 1 on."""
        return can_keep(self._history, one_bound(self._history, self._bounds, version, width, reach))

    def bind(self, version, width, reach):
        """Take this width and reach for a version from 1 on; Unkept if the bounds could not be kept."""
        self._take(one_bound(self._history, self._bounds, version, width, reach))


class Level(Kept):
    """A history with the same width and reach for all versions, at first and whenever it is turned."""

    def __init__(self, history, width, reach):
        require(is_history(history), "history")
        super().__init__(history, level_bounds(history, width, reach))
        self._pair = (width, reach)

    def as_pair(self):
        """The width and reach of the last turn, else of the making."""
        return self._pair

    def turn(self, width, reach):
        """Take this width and reach for all versions; Unkept if the bounds could not be kept."""
        self._take(level_bounds(self._history, width, reach))
        self._pair = (width, reach)
