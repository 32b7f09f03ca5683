"""The checker of kinds."""
from sincemarks.errors import InvalidPaper
from sincemarks.worthkinds import kind_fault, need_of


def lets_kind(thing):
    """The need of a kind; InvalidPaper tells why thing is none."""
    fault = kind_fault(thing)
    if fault is not None:
        word, at = fault
        raise InvalidPaper(word, at)
    return need_of(thing)
