"""What bounds are."""
from sincemarks.kinds import is_natural
from sincemarks.usable import require

# The greatest roof, width and reach.
MOST = 999


def is_up_to(most, thing):
    """Whether thing is an integer from 1 to most."""
    return is_natural(thing) and thing <= most


def bounds_fault(history, thing):
    """The first (word, at) for which thing is no bounds of history, None for bounds."""
    if not isinstance(thing, tuple) or len(thing) != 2:
        return ("shape", -1)
    roof, pairs = thing
    if not is_up_to(MOST, roof):
        return ("roof", 0)
    if not isinstance(pairs, tuple) or len(pairs) != len(history):
        return ("many", 1)
    for index, pair in enumerate(pairs):
        word = _pair_fault(roof, pair)
        if word is not None:
            return (word, index)
    return None


def _pair_fault(roof, pair):
    if not isinstance(pair, tuple) or len(pair) != 2:
        return "pair"
    width, reach = pair
    if not is_up_to(MOST, width):
        return "width"
    return None if is_up_to(roof, reach) else "reach"


def is_pair(roof, thing):
    """Whether thing is a width with a reach up to the roof."""
    return _pair_fault(roof, thing) is None


def is_bounds(history, thing):
    """Whether thing is bounds of history."""
    return bounds_fault(history, thing) is None


def require_bounds(history, bounds):
    """Refuse bounds unless they are bounds of history."""
    require(is_bounds(history, bounds), "bounds")
