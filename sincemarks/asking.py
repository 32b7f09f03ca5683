"""What versions are given from the sheets of their chains."""
from sincemarks.baseskinds import require_plan
from sincemarks.chains import chain_in
from sincemarks.historykinds import is_version
from sincemarks.sheetfilling import require_sheets
from sincemarks.states import put_on
from sincemarks.usable import require
from sincemarks.worthkinds import is_kind


def asked(kind, history, bases, sheets, version):
    """The sheets of the version's chain put together, its own one last."""
    _require_filled(kind, history, bases, sheets)
    require(is_version(history, version), "version")
    return given(kind, bases, sheets, version)


def _require_filled(kind, history, bases, sheets):
    require(is_kind(kind), "kind")
    require_plan(history, bases, "bases")
    require_sheets(kind, history, sheets)


def given(kind, bases, sheets, version):
    """The same, of what is known to be as it has to be."""
    return put_on(kind, sheets, chain_in(bases, version)[::-1])


def asked_all(kind, history, bases, sheets):
    """What each version is given, from version 0 on."""
    _require_filled(kind, history, bases, sheets)
    return tuple([given(kind, bases, sheets, version) for version in range(len(history) + 1)])
