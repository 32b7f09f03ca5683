"""What tells histories of unlike weights apart."""
from sincemarks.choosing import capacity
from sincemarks.exchanging import forest_weights


def parting_of(width, one, other):
    """A line, and a reach, with which just one of two histories can be kept; None if they weigh the same."""
    weights = forest_weights(width, one, other)
    if weights[0] == weights[1]:
        return None
    lighter = min(weights)
    reach = 1
    # Below a line of one version the lighter one is to fit.
    while lighter + 1 >= capacity(width, reach):
        reach += 1
    # With this line it is just below the capacity, so the heavier one is not.
    return (capacity(width, reach) - 1 - lighter, reach)
