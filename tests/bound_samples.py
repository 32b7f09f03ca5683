"""Rows, bounds and papers of all sorts for the tests."""
import itertools

from tests import plain_bounds, samples
from tests.samples import GREAT

TREE = tuple(k // 3 for k in range(40))
STARS = ((0,) * 40, (0,) + (1,) * 39)
FORTY = (tuple(range(40)), *STARS, TREE)

NO_ROWS = (
    None, True, False, 0, 1, 2, -1, "", "1", "(1,)", [], [1], [2, 1], (0,), (1, 0), (-1,), (1, -1), (True,), (2, True),
    (False,), (1, 2), (2, 1, 2), (1, 1, 2), (3, 1, 2), ("1",), (None,), ((1,),), ((2, 1),), (1, (1,)), ([1],), (1, None),
    (GREAT, GREAT + 1), (2, 1, 0), ((),), {},
)

NO_NUMBERS = (-1, -GREAT, True, False, None, "0", "1", "", (), (1,), [], [1])
NO_NATURALS = NO_NUMBERS + (0,)
NO_UP_TO_999 = NO_NATURALS + (1000, GREAT)


def some_row(source, most, few):
    return tuple(sorted((source.randint(1, most) for _ in range(source.randint(0, few))), reverse=True))


def some_rows(*seed, many=60):
    source = samples.chance("rows", *seed)
    for _ in range(many):
        yield some_row(source, source.choice((1, 2, 3, 5, 9, GREAT)), source.choice((1, 2, 3, 4, 8)))


def all_pairs(roof, width):
    return tuple(itertools.product(range(1, width + 1), range(1, roof + 1)))


def all_bounds(history, roof, width):
    """All bounds with this roof and no width above this one."""
    for pairs in itertools.product(all_pairs(roof, width), repeat=len(history)):
        yield roof, pairs


def small_bounds():
    """Small histories with all their bounds of small roof."""
    for many, roof, width in ((0, 3, 1), (1, 3, 3), (2, 3, 3), (3, 2, 3), (4, 2, 2)):
        for history in samples.all_histories(many):
            for bounds in all_bounds(history, roof, width):
                yield history, bounds


def some_pair(source, roof, most):
    return source.randint(1, most), source.choice((1, roof, source.randint(1, roof)))


def some_bounds(history, many=6):
    """Bounds of a history: level, narrow, wide, high, any."""
    source = samples.chance("bounds", history)
    for width, reach in ((1, 1), (2, 2), (1, 40), (3, 2), (999, 999), (999, 1), (1, 999)):
        yield plain_bounds.level(history, width, reach)
    for most in (2, 3, 6, 999):
        for _ in range(many):
            roof = source.choice((1, 2, 3, 5, 9, most))
            yield roof, tuple(some_pair(source, roof, most) for _ in history)


def no_bounds(history):
    """What is no bounds of a history with at least one change, with the word and place that the checker gives."""
    many = len(history)
    good = ((2, 3),) * many
    found = [
        (thing, "shape", -1) for thing in (
            None, True, 0, 3, "", "bounds", (), (3,), (3, good, 1), [3, good], [], good, ((3, good),), {},
        ) if not (type(thing) is tuple and len(thing) == 2)
    ]
    found += [
        ((roof, good), "roof", 0) for roof in (0, -1, 1000, GREAT, True, False, None, "3", (3,), [3], ())
    ]
    found += [((roof, None), "roof", 0) for roof in (0, 1000, True, None)]
    found += [
        ((3, thing), "many", 1) for thing in (
            None, 0, True, "", list(good), (), good[1:], good + ((2, 3),), (good,) * (many + 1), {}, ((1,),) * (many + 1),
        )
    ]
    for k in range(many):
        for word, pairs in (
            ("pair", (None, 0, True, "", (), (2,), (2, 3, 1), [2, 3], ((2, 3),), "23", {})),
            ("width", tuple((width, 3) for width in (0, -1, 1000, GREAT, True, False, None, "2", (2,), [2]))),
            ("width", ((0, 0), (True, True), (1000, 9), (None, None))),
            ("reach", tuple((2, reach) for reach in (0, -1, 4, 5, 999, 1000, GREAT, True, False, None, "3", (3,)))),
        ):
            for pair in pairs:
                found.append(((3, good[:k] + (pair,) + good[k + 1:]), word, k))
                # Of two faults the first one is told.
                if k + 1 < many:
                    found.append(((3, good[:k] + (pair, None) + good[k + 2:]), word, k))
                    found.append(((3, good[:k] + (pair, (0, 0)) + good[k + 2:]), word, k))
    return tuple(found)


def bad_bounds(history, step=1):
    return tuple(thing for thing, _, _ in no_bounds(history))[::step]


def bad_versions(history):
    """What is no version from 1 on."""
    return samples.no_versions(history) + (0,)
