"""The checker of the worths of sheets."""
from sincemarks.errors import InvalidPaper
from sincemarks.sheetfilling import filled
from sincemarks.worthkinds import is_change


def lets_sheets(kind, history, changes, bases, thing):
    """How many sheets there are; InvalidPaper tells why thing is not what they are worth."""
    worths = filled(kind, history, changes, bases)
    if not isinstance(thing, tuple) or len(thing) != len(worths):
        raise InvalidPaper("shape", -1)
    for index, worth in enumerate(worths):
        # As Python compares, True would pass for 1.
        if not is_change(kind, thing[index]) or thing[index] != worth:
            raise InvalidPaper("sheet", index)
    return len(worths)
