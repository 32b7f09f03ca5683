"""Bounds and heights as lines."""
from sincemarks.boundkinds import MOST, is_pair, is_up_to, require_bounds
from sincemarks.errors import InvalidText
from sincemarks.heights import require_heights
from sincemarks.kinds import is_natural
from sincemarks.usable import require
from sincemarks.words import integer_in, integers_behind, numbers_line, require_each


def bounds_line(history, bounds):
    """The word bounds, the roof, and width:reach for each version."""
    require_bounds(history, bounds)
    roof, pairs = bounds
    return " ".join([f"bounds {roof}"] + [f"{width}:{reach}" for width, reach in pairs])


def read_bounds(history, text):
    """The bounds with this line; InvalidText tells from which word on it is none."""
    require(isinstance(text, str), "text")
    words = text.split(" ")
    if words[0] != "bounds":
        raise InvalidText(0, 0)
    roof = integer_in(words[1]) if len(words) > 1 else None
    if not is_up_to(MOST, roof):
        raise InvalidText(0, 1)
    pairs = [_pair_in(word) for word in words[2:]]
    require_each(pairs, len(history), lambda index, pair: is_pair(roof, pair), 2)
    return (roof, tuple(pairs))


def _pair_in(word):
    width, _, reach = word.partition(":")
    return (integer_in(width), integer_in(reach))


def heights_line(history, heights):
    """The word heights and the heights."""
    require_heights(history, heights)
    return numbers_line("heights", heights)


def read_heights(history, text):
    """The heights with this line; InvalidText tells from which word on it is none."""
    require(isinstance(text, str), "text")
    heights = integers_behind("heights", text, 0)
    require_each(heights, len(history), lambda index, height: is_natural(height), 1)
    return tuple(heights)
