"""What serves many modules: the refusal of parameters, and the search for a least value."""
from sincemarks.errors import NotUsable


def require(holds, name):
    """Refuse the parameter of this name unless holds."""
    if not holds:
        raise NotUsable(name, -1)


def least_from(low, high, serves):
    """The least integer from low to high that serves, None if none does; all above one that serves do, too."""
    if not serves(high):
        return None
    least, most = low, high
    while least < most:
        middle = (least + most) // 2
        if serves(middle):
            most = middle
        else:
            least = middle + 1
    return most
