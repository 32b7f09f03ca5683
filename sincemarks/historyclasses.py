"""Histories with their changes, as objects."""
from sincemarks.cuttings import left_on
from sincemarks.grafts import grafted
from sincemarks.historykinds import is_history, is_version
from sincemarks.states import between, changes_on, require_changes, state_of, states_of, taken_over
from sincemarks.usable import require
from sincemarks.worthkinds import is_change, is_kind


class Told:
    """A history with its changes of one kind."""

    def __init__(self, kind, history, changes):
        require(is_kind(kind), "kind")
        require(is_history(history), "history")
        require_changes(kind, history, changes)
        self._kind = kind
        self._history = history
        self._changes = changes

    def __len__(self):
        return len(self._history)

    def __eq__(self, other):
        return (
            isinstance(other, Told) and self._kind == other._kind
            and self._history == other._history and self._changes == other._changes
        )

    def told(self):
        """The kind, the history and its changes."""
        return (self._kind, self._history, self._changes)

    def state(self, version):
        """The changes on the path of version, put together."""
        return state_of(self._kind, self._history, self._changes, version)

    def way(self, one, other):
        """The changes that lead from one down to other, put together."""
        return between(self._kind, self._history, self._changes, one, other)

    def taken(self, one, other):
        """The changes that lead to other from where it and one meet, put together."""
        return taken_over(self._kind, self._history, self._changes, one, other)

    def left(self, versions):
        """What is left on versions, which keep their states."""
        changes = changes_on(self._kind, self._history, self._changes, versions)
        return Told(self._kind, left_on(self._history, versions), changes)

    def put(self, version, change):
        """This and one version more, made from version by change."""
        require(is_version(self._history, version), "version")
        require(is_change(self._kind, change), "change")
        return Told(self._kind, self._history + (version,), self._changes + (change,))

    def hung(self, version, other):
        """This and other, of an equal kind, hung below version."""
        require(is_version(self._history, version), "version")
        require(isinstance(other, Told) and other._kind == self._kind, "other")
        history = grafted(self._history, version, other._history)
        return Told(self._kind, history, self._changes + other._changes)


class Numbers(Told):
    """A history whose changes are integers, which are added."""

    def __init__(self, history, changes):
        super().__init__(("sum",), history, changes)

    def gain(self, one, other):
        """The state of other less that of one."""
        require(is_version(self._history, one), "one")
        require(is_version(self._history, other), "other")
        return self.state(other) - self.state(one)

    def highest(self):
        """The least version with the greatest state, and this state."""
        states = states_of(self._kind, self._history, self._changes)
        return (states.index(max(states)), max(states))

    def lowest(self):
        """The least version with the least state, and this state."""
        states = states_of(self._kind, self._history, self._changes)
        return (states.index(min(states)), min(states))
