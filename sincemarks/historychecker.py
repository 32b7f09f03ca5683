"""The checker of histories."""
from sincemarks.errors import InvalidPaper
from sincemarks.historykinds import is_parent


def lets_history(thing):
    """How many changes a history has; InvalidPaper tells why thing is none."""
    if not isinstance(thing, tuple):
        raise InvalidPaper("shape", -1)
    for index, parent in enumerate(thing):
        if not is_parent(index, parent):
            raise InvalidPaper("parent", index)
    return len(thing)
