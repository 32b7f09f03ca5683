"""The checker of what tells histories apart."""
from sincemarks.boundkinds import is_up_to
from sincemarks.choosing import capacity
from sincemarks.errors import InvalidPaper
from sincemarks.exchanging import forest_weights


def lets_parting(width, one, other, thing):
    """Whether, below such a line, one can be kept and other cannot; InvalidPaper if not just one of them can."""
    weights = forest_weights(width, one, other)
    if not isinstance(thing, tuple) or len(thing) != 2:
        raise InvalidPaper("shape", -1)
    many, reach = thing
    if not is_up_to(10 ** 30 - 1, many):
        raise InvalidPaper("many", 0)
    if not is_up_to(99, reach):
        raise InvalidPaper("reach", 1)
    # A line weighs one more for each version, with what hangs below it.
    one_fits, other_fits = [weight + many < capacity(width, reach) for weight in weights]
    if one_fits == other_fits:
        raise InvalidPaper("parts", -1)
    return one_fits
