"""Filled sheets as objects, in which changes are put right and sheets get lost."""
from sincemarks.asking import given
from sincemarks.errors import Unserved
from sincemarks.historykinds import is_history, is_later_version, is_version
from sincemarks.kinds import is_integer
from sincemarks.losses import spoiled_by
from sincemarks.mending import mend_order, mended
from sincemarks.remaking import remade
from sincemarks.sheetfilling import filled
from sincemarks.shifting import rewritten, shifted
from sincemarks.usable import require
from sincemarks.worthkinds import blank_of, is_change, is_kind


class Filled:
    """A history with its changes, a plan, and the sheets of this, some of which may be lost."""

    def __init__(self, kind, history, changes, bases):
        require(is_kind(kind), "kind")
        require(is_history(history), "history")
        self._sheets = filled(kind, history, changes, bases)
        self._kind = kind
        self._history = history
        self._changes = changes
        self._bases = bases
        self._lost = ()

    @property
    def made_from(self):
        """The kind, the history, the changes and the bases as they now are."""
        return (self._kind, self._history, self._changes, self._bases)

    @property
    def worths_now(self):
        """The sheets of the versions from 1 on, None for a lost one."""
        return self._with_lost(None)

    @property
    def lost_now(self):
        """The set of the versions whose sheets are lost."""
        return self._lost

    def _with_lost(self, worth):
        """The sheets, with this worth in place of each lost one."""
        return tuple([worth if at in self._lost else sheet for at, sheet in enumerate(self._sheets, start=1)])

    def __eq__(self, other):
        return (
            isinstance(other, Filled) and self._kind == other._kind and self._history == other._history
            and self._changes == other._changes and self._bases == other._bases and self._lost == other._lost
        )

    def __call__(self, version):
        require(is_version(self._history, version), "version")
        return self._given_now(version)

    def _given_now(self, version):
        if version in spoiled_by(self._history, self._bases, self._lost):
            raise Unserved(version)
        return given(self._kind, self._bases, self._sheets, version)

    def asked_each(self, *versions):
        """What each of versions is given, one by one."""
        require(all([is_version(self._history, version) for version in versions]), "versions")
        for version in versions:
            yield self._given_now(version)

    def lose(self, *versions):
        """The sheets of versions from 1 on are lost; the set of all versions that can no longer be given."""
        require(all([is_later_version(self._history, version) for version in versions]), "versions")
        self._lost = _united(self._lost, versions)
        # Nothing of a lost sheet is kept.
        self._sheets = self._with_lost(blank_of(self._kind))
        return spoiled_by(self._history, self._bases, self._lost)

    def make_again(self):
        """All lost sheets are made again; the set of their versions."""
        made = self._lost
        self._sheets = remade(self._kind, self._history, self._changes, self._bases, self._sheets, made)
        self._lost = ()
        return made

    def put_right(self, version, change, *, dry=False):
        """change takes the place of that of a version from 1 on; the set of the versions whose sheets are written."""
        require(is_later_version(self._history, version), "version")
        require(is_change(self._kind, change), "change")
        require(isinstance(dry, bool), "dry")
        written = _united(self._lost, mend_order(self._history, self._bases, version))
        if not dry:
            self.make_again()
            self._changes, self._sheets = mended(
                self._kind, self._history, self._changes, self._bases, self._sheets, version, change
            )
        return written

    def turn_to(self, other):
        """Another plan takes the place of the plan; the set of the versions whose sheets are written."""
        # What is no plan is refused here, ahead of all changes.
        written = _united(self._lost, rewritten(self._history, self._bases, other))
        self.make_again()
        self._sheets = shifted(self._kind, self._history, self._changes, self._bases, self._sheets, other)
        self._bases = other
        return written


class Sums(Filled):
    """Filled sheets of integers, which are added."""

    def __init__(self, history, changes, bases):
        super().__init__(("sum",), history, changes, bases)

    def raise_by(self, version, many, *, dry=False):
        """The change of a version from 1 on is raised; the set of the versions whose sheets are written."""
        require(is_later_version(self._history, version), "version")
        require(is_integer(many), "many")
        return self.put_right(version, self._changes[version - 1] + many, dry=dry)

    def apart(self, one, other):
        """What other is given less what one is given."""
        require(is_version(self._history, one), "one")
        require(is_version(self._history, other), "other")
        less = self._given_now(one)
        return self._given_now(other) - less


def _united(one, other):
    """The set of what stands in one of two tuples of versions."""
    return tuple(sorted(set(one) | set(other)))
