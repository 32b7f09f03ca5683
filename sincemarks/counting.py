"""How many line plans there are, and how many within bounds."""
from sincemarks.choosing import choose
from sincemarks.kinds import is_number
from sincemarks.usable import require


def plans_many(many):
    """How many line plans of many changes there are."""
    require(is_number(many), "many")
    return choose(2 * many, many) // (many + 1)


def plans_within(many, width, reach):
    """How many line plans of many changes have no writes above width and no reads above reach."""
    require(is_number(many), "many")
    require(is_number(width), "width")
    require(is_number(reach), "reach")
    none = [1] + [0] * many
    # For each reach: how many plans of 0, 1, .. changes there are; no plan has a count above many.
    by_reach = [none] * (min(reach, many) + 1)
    for _ in range(min(width, many)):
        wider = [none]
        for narrower in by_reach[1:]:
            wider.append(_with_cut(many, narrower, wider[-1]))
        by_reach = wider
    return by_reach[-1][many]


def _with_cut(many, ahead, behind):
    """How many plans of 0 to many changes there are, from how many there may be ahead of and behind their cuts."""
    # A turn to the left is one more write for what is ahead, one to the right one more read for what is behind.
    counts = [1]
    for size in range(1, many + 1):
        counts.append(sum([ahead[cut - 1] * behind[size - cut] for cut in range(1, size + 1)]))
    return counts
