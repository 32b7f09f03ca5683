"""What a history is, and what its versions are."""
from sincemarks.kinds import is_natural, is_number, is_set


def is_parent(index, thing):
    """Whether thing may stand at this index of a history."""
    return is_number(thing) and thing <= index


def is_history(thing):
    """Whether thing is a history."""
    if not isinstance(thing, tuple):
        return False
    return all([is_parent(index, parent) for index, parent in enumerate(thing)])


def is_version(history, thing):
    """Whether thing is a version of history, the first one included."""
    return is_number(thing) and thing <= len(history)


def is_later_version(history, thing):
    """Whether thing is a version of history from 1 on."""
    return is_natural(thing) and thing <= len(history)


def are_versions(history, thing):
    """Whether thing is a set of versions of history from 1 on."""
    return is_set(thing) and all([is_later_version(history, version) for version in thing])


def all_later(history):
    """The set of all versions of history from 1 on."""
    return tuple(range(1, len(history) + 1))
