"""Plain counts of weights, rooms and shapes, made step by step."""
from tests import plain, plain_bounds
from tests.plain_stores import later


def weights(history, width):
    """The weights of the versions from 1 on, by version."""
    found = {}
    for version in reversed(later(history)):
        found[version] = 1 + plain_bounds.joined(width, [found[v] for v in plain.children(history, version)])
    return found


def forest(history, width):
    found = weights(history, width)
    return plain_bounds.joined(width, [found[v] for v in plain.children(history, 0)])


def is_kept(history, width, reach):
    """Whether the walk stays within the level."""
    return plain_bounds.top(history, plain_bounds.level(history, width, reach)) <= reach


def replaced(history, version, other):
    branch = plain.branch(history, version)
    others = [v for v in later(history) if v not in branch]
    return plain.hung(plain.left_on(history, others), plain.parents(history)[version], other)


def line(many):
    return tuple(range(many))


def room(history, width, reach, version):
    """The greatest line that may stand in the place of the branch, each one being built and walked through."""
    many = 0
    while is_kept(replaced(history, version, line(many + 1)), width, reach):
        many += 1
    return many


def spare(history, width, reach, version):
    many = 0
    while is_kept(plain.hung(history, version, line(many + 1)), width, reach):
        many += 1
    return many


# Shapes.

def is_shape(thing):
    return type(thing) is tuple and all(
        plain.is_tuple_of(part, 3) and type(part[0]) is int and type(part[1]) is int and min(part[:2]) > 0
        and is_shape(part[2]) for part in thing
    )


def unfolded(shape, above=0, history=()):
    for many, length, inner in shape:
        for _ in range(many):
            at = above
            for _ in range(length):
                history = (*history, at)
                at = len(history)
            history = unfolded(inner, at, history)
    return history


def shape_below(history, version):
    """The shape of what is below a version."""
    parts = []
    for child in plain.children(history, version):
        way = [child]
        while len(plain.children(history, way[-1])) == 1:
            way += plain.children(history, way[-1])
        parts.append((1, len(way), shape_below(history, way[-1])))
    return tuple(parts)


def shape_word(shape):
    words = [f"{many}x{length}" + (f"({shape_word(inner)})" if inner else "") for many, length, inner in shape]
    return ",".join(words) or "-"
