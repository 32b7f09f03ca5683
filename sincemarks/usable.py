"""The refusal of parameters that are not as stated."""
from sincemarks.errors import NotUsable


def require(holds, name):
    """Refuse the parameter of this name unless holds."""
    if not holds:
        raise NotUsable(name, -1)
