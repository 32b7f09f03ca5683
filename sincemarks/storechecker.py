"""The checker of stores."""
from sincemarks.errors import InvalidPaper
from sincemarks.storekinds import store_fault


def lets_store(history, thing):
    """How many sheets a store of history has; InvalidPaper tells why thing is none."""
    fault = store_fault(history, thing)
    if fault is not None:
        word, at = fault
        raise InvalidPaper(word, at)
    return len(thing[0])
