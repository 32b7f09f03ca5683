"""The checker of bounds."""
from sincemarks.boundkinds import bounds_fault
from sincemarks.errors import InvalidPaper


def lets_bounds(history, thing):
    """The roof of bounds of history; InvalidPaper tells why thing is none."""
    fault = bounds_fault(history, thing)
    if fault is not None:
        word, at = fault
        raise InvalidPaper(word, at)
    return thing[0]
