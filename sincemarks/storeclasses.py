"""Stores with their histories, as objects."""
from sincemarks.baseskinds import is_base, require_bases
from sincemarks.chains import store_by
from sincemarks.historykinds import is_history, is_later_version, is_version
from sincemarks.kinds import is_set
from sincemarks.storekinds import are_sheets, is_set_below, is_sheet, is_store
from sincemarks.usable import require


class Store:
    """A history with a store of it, right or not."""

    def __init__(self, history, sheets, read):
        require(is_history(history), "history")
        require(are_sheets(history, sheets), "sheets")
        require(is_store(history, (sheets, read)), "read")
        self._history = history
        self._sheets = sheets
        self._read = read

    @property
    def tree(self):
        """The history."""
        return self._history

    @property
    def pair(self):
        """The store, as a pair."""
        return (self._sheets, self._read)

    def __len__(self):
        return len(self._sheets)

    def __eq__(self, other):
        return (
            isinstance(other, Store) and self._history == other._history
            and self._sheets == other._sheets and self._read == other._read
        )

    def __contains__(self, thing):
        # As Python compares, (True,) would be found where (1,) is a sheet.
        return is_set(thing) and thing in self._sheets

    def __add__(self, other):
        require(isinstance(other, Store) and other._history == self._history, "other")
        many = len(self._sheets)
        behind = [tuple([many + number for number in numbers]) for numbers in other._read]
        read = [numbers + more for numbers, more in zip(self._read, behind)]
        return Store(self._history, self._sheets + other._sheets, tuple(read))

    def __call__(self, version):
        require(is_version(self._history, version), "version")
        return tuple([self._sheets[number] for number in self._read[version]])

    def with_sheet(self, sheet, *, by=()):
        """A store with a further sheet, which the versions in by read."""
        require(is_sheet(self._history, sheet), "sheet")
        require(is_set_below(len(self._history) + 1, by), "by")
        last = (len(self._sheets),)
        read = [numbers + last if at in by else numbers for at, numbers in enumerate(self._read)]
        return Store(self._history, self._sheets + (sheet,), tuple(read))


class Based(Store):
    """A history with the store that bases make."""

    def __init__(self, history, bases):
        require(is_history(history), "history")
        require_bases(history, bases)
        sheets, read = store_by(history, bases)
        super().__init__(history, sheets, read)
        self._since = bases

    @property
    def since(self):
        """The bases."""
        return self._since

    def rebased(self, version, *, base):
        """The same with another base of a version from 1 on."""
        require(is_later_version(self._history, version), "version")
        require(is_base(self._history, version, base), "base")
        bases = self._since[:version - 1] + (base,) + self._since[version:]
        return Based(self._history, bases)
