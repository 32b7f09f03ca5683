"""Shapes of histories, which may be far too long to write down."""
from sincemarks.branches import children_of
from sincemarks.choosing import capacity
from sincemarks.grafts import grafted, line_of
from sincemarks.joining import joined_all, joined_many
from sincemarks.kinds import is_natural
from sincemarks.rownumbers import greatest_member
from sincemarks.usable import require

# How many changes an unfolded history has at most.
MOST_CHANGES = 40


def is_shape(thing):
    """Whether thing is a tuple of triples (many, length, shape)."""
    return isinstance(thing, tuple) and all([_is_triple(part) for part in thing])


def _is_triple(thing):
    if not isinstance(thing, tuple) or len(thing) != 3:
        return False
    many, length, inner = thing
    return is_natural(many) and is_natural(length) and is_shape(inner)


def shape_size(shape):
    """How many versions there are."""
    require(is_shape(shape), "shape")
    return sum([many * (length + shape_size(inner)) for many, length, inner in shape])


def shape_weight(width, shape):
    """The weight of the forest."""
    require(is_natural(width), "width")
    require(is_shape(shape), "shape")
    copies = [joined_many(width, length + shape_weight(width, inner), many) for many, length, inner in shape]
    return joined_all(width, tuple(copies))


def shape_depth(shape):
    """The greatest number of versions on a way downwards, 0 for ()."""
    require(is_shape(shape), "shape")
    return max([0] + [length + shape_depth(inner) for _, length, inner in shape])


def shape_fits(width, reach, shape):
    """Whether the history can be kept at the level (width, reach)."""
    most = capacity(width, reach)
    return shape_weight(width, shape) < most


def shape_reach(width, shape):
    """The least reach at which the history can be kept with this width, 0 for ()."""
    return greatest_member(width, shape_weight(width, shape))


def shape_of(history):
    """The shape of a history, with a triple for each line that ends where there is not just one child."""
    return _shape_below(history, 0)


def _shape_below(history, version):
    return tuple([_triple_from(history, child) for child in children_of(history, version)])


def _triple_from(history, version):
    length, at = 1, version
    below = children_of(history, at)
    while len(below) == 1:
        length, at = length + 1, below[0]
        below = children_of(history, at)
    return (1, length, _shape_below(history, at))


def unfolded(shape):
    """The history of a shape of at most forty versions."""
    require(is_shape(shape) and shape_size(shape) <= MOST_CHANGES, "shape")
    return _hung_below((), 0, shape)


def _hung_below(history, version, shape):
    grown = history
    for many, length, inner in shape:
        for _ in range(many):
            lined = grafted(grown, version, line_of(length))
            grown = _hung_below(lined, len(lined), inner)
    return grown
