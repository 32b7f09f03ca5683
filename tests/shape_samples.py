"""Shapes, and what is none, for the tests."""
from tests import samples
from tests.samples import GREAT

FAR = ((1000000, 4, ((7, 2, ()),)),)


def deep(levels, many=1, length=1, inner=()):
    for _ in range(levels):
        inner = ((many, length, inner),)
    return inner


# Twelve levels, and forty triples.
TWELVE = deep(12, GREAT, GREAT)
FORTY_TRIPLES = tuple((k + 1, GREAT - k, ()) for k in range(40))
MIXED = ((GREAT, 3, ((2, GREAT, ()), (5, 1, deep(5, 3, 2)))), (1, 10 ** 25, deep(4, 40, 99)), (7, 7, ()))

LARGE = (
    FAR, TWELVE, FORTY_TRIPLES, MIXED, ((GREAT, GREAT, ()),), ((1, 10 ** 25, ()),), ((10 ** 25, 1, ()),),
    deep(12, 2, 10 ** 29), deep(10, 41, 1, FORTY_TRIPLES[:30]),
)

SMALL = (
    (), ((1, 1, ()),), ((2, 1, ()),), ((1, 2, ()),), ((1, 1, ()), (1, 1, ())), ((3, 2, ()), (1, 4, ())),
    ((1, 1, ((2, 1, ()), (1, 2, ()))),), ((2, 1, ((2, 1, ()),)),), ((2, 2, ((1, 1, ((3, 1, ()),)),)), (1, 1, ())),
    ((1, 1, ((3, 2, ()), (1, 4, ()))), (2, 5, ())), deep(12), deep(4, 2, 1), ((40, 1, ()),), ((1, 40, ()),),
    ((8, 5, ()),), ((4, 4, ((6, 1, ()),)),), ((1, 3, ((5, 1, ((2, 3, ()),)), (1, 2, ()))),), deep(3, 3, 1),
)


def some_shape(source, levels=3, size=3):
    """Any small shape; it may have more than forty versions."""
    if levels == 0 or source.random() < 0.25:
        return ()
    return tuple(
        (source.randint(1, 3), source.randint(1, 4), some_shape(source, levels - 1, 2))
        for _ in range(source.randint(1, size))
    )


def some_shapes(many=40):
    source = samples.chance("shapes")
    for _ in range(many):
        yield some_shape(source)


# What is no triple of a shape.
NO_TRIPLES = (
    None, 1, True, "1x1", (), (1,), (1, 1), (1, 1, (), ()), [1, 1, ()], (0, 1, ()), (1, 0, ()), (-1, 1, ()), (1, -1, ()),
    (True, 1, ()), (1, True, ()), (False, 1, ()), ("1", 1, ()), (1, "1", ()), (None, 1, ()), (1, None, ()), (1, 1, None),
    (1, 1, []), (1, 1, 0), (1, 1, ""), (1, 1, "-"), ((1,), 1, ()), (1, 1, (1, 1, ())), (1, 1, [(1, 1, ())]),
)


def no_shapes():
    """What is no shape, also within an inner one."""
    yield from (None, True, 0, 1, "", "-", "1x1", [], [(1, 1, ())], (1, 1, ()), {})
    for bad in NO_TRIPLES:
        yield (bad,)
        yield ((1, 1, ()), bad)
        yield (bad, (1, 1, ()))
        yield ((1, 1, (bad,)),)
        yield ((2, 2, ((1, 1, ()), (3, 3, ((1, 1, ()), bad)))),)
    yield deep(11, 1, 1, (True,))
