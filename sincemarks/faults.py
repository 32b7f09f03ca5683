"""Whether stores are right, and in which manner they are."""
from sincemarks.elders import path_of
from sincemarks.errors import Faulty
from sincemarks.storekinds import require_store


def fault_of(history, store):
    """The least version with a change lacking or too many, and the least such change."""
    require_store(history, store)
    for version in range(len(history) + 1):
        wrong = _wrong_at(history, store, version)
        if wrong:
            return (version, min(wrong))
    return None


def _wrong_at(history, store, version):
    path = path_of(history, version)
    held = changes_read(store, version)
    lacking = [change for change in path if change not in held]
    return lacking + [change for change in held if change not in path]


def changes_read(store, version):
    """The changes in the sheets that a version reads, sheet by sheet."""
    sheets, read = store
    return [change for number in read[version] for change in sheets[number]]


def is_right(history, store):
    """Whether each version reads just the changes on its path."""
    return fault_of(history, store) is None


def require_right(history, store):
    """Refuse what is no store, and raise Faulty for the fault of a store, if it has one."""
    fault = fault_of(history, store)
    if fault is not None:
        version, change = fault
        raise Faulty(version, change)


def manner_of(history, store):
    """The least that holds of all versions of a right store: "any", "once" or "order"."""
    require_right(history, store)
    manners = [manner_at(history, store, version) for version in range(len(history) + 1)]
    for manner in ("any", "once"):
        if manner in manners:
            return manner
    return "order"


def manner_at(history, store, version):
    """The manner of one version of a right store."""
    sheets, read = store
    held = changes_read(store, version)
    if len(set(held)) < len(held):
        return "any"
    if all([_is_stretch(history, sheets[number]) for number in read[version]]):
        return "order"
    return "once"


def _is_stretch(history, sheet):
    # What a version of a right store reads lies on its path.
    return all([history[below - 1] == above for above, below in zip(sheet, sheet[1:])])
