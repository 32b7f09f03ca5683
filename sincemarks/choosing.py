"""How many ways there are to choose, and the capacity of a level."""
from math import comb

from sincemarks.kinds import is_natural, is_number
from sincemarks.usable import require


def choose(top, few):
    """How many sets of few of top things there are."""
    require(is_number(top), "top")
    require(is_number(few), "few")
    return comb(top, few)


def capacity(width, reach):
    """The least weight with which a history cannot be kept at the level (width, reach)."""
    require(is_natural(width), "width")
    require(is_natural(reach), "reach")
    return choose(width + reach, reach)
