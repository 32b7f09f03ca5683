"""Histories with changes, plans and sheets of all sorts, and what is none, for the tests."""
from tests import plain_stores, samples, store_samples

TWOS, FREE = (0, 1, 0, 3, 3), (0, 0, 0, 0, 0)
# Bases of a line of four that are no plan.
CROSSED = (0, 1, 0, 2)
FOUR = (0, 1, 2, 3)

NO_NUMBERS = (-1, -samples.GREAT, True, False, None, "0", "1", "", (), (1,), [], [1])


def some_plans(history, many=4):
    """Plans of a history: near, far, and by heights."""
    source = samples.chance("plans of", history)
    yield tuple(history)
    yield (0,) * len(history)
    for most in (2, 3, 5, len(history) + 1)[:many]:
        heights = tuple(source.randint(1, most) for _ in history)
        yield plain_stores.bases_by(history, heights)


def no_plans(history):
    """What is no plan of a history with at least one change, crossed bases among it."""
    found = list(store_samples.no_bases(history))
    if len(history) <= 5:
        found += [bases for bases in plain_stores.all_bases(history) if plain_stores.crossings(history, bases)]
    return tuple(found)


def told(step=1, kinds=samples.NINE):
    """Kinds with histories, their changes and plans."""
    for k, kind in enumerate(kinds):
        for history in samples.SMALL[k % 3::3 * step] + samples.LARGE[k % 4::4 * step]:
            source = samples.chance("told", kind, history)
            for bases in list(some_plans(history))[k % 2::2]:
                yield kind, history, samples.some_changes(kind, len(history), source), bases


def some_sheets(kind, history, source):
    """Sheets that may be right or not."""
    return samples.some_changes(kind, len(history), source)


def no_change(kind):
    """What is no change of the kind, however like one it looks."""
    odd = {
        "sum": (True, False, None, "1", (1,), [1], ""),
        "peak": (-1, True, None, "1", (1,)),
        "set": ([1], (True,), (1, 1), (2, 1), (-1,), None, 1, ("1",)),
        "last": ((1,), ((1,),), ((1, True),), ((True, 1),), ((1, 1), (1, 2)), ((2, 1), (1, 1)), [(1, 1)], ([1, 1],), None),
        "affine": ((1,), (1, 0, 0), [1, 0], (1, kind[-1]), (True, 0), (1, False), (-1, 0), None),
        "square": ((1, 0, 0), [1, 0, 0, 1], (1, 0, 0, kind[-1]), (True, 0, 0, 1), (1, 0, 0, True), None),
        "turn": ((0,) * 4, [0, 1, 2, 3], (0, 1, 2), (False, True, 2, 3), (1, 2, 3, 4), None),
        "tail": ((0,), [0, ""], (0, "", ""), (-1, ""), (True, "a"), (0, "A"), (0, None), ("", 0), None),
        "text": ("A", "a b", "a\n", "1", None, ("a",), ["a"], 0, True),
    }
    return odd[kind[0]]


def no_changes(kind, many):
    """What is no tuple of so many changes, at least one, of the kind."""
    source = samples.chance("no changes", kind, many)
    good = samples.some_changes(kind, many, source)
    found = [None, True, 0, "", list(good), good[1:], good + good[:1], (good,), ()]
    for bad in no_change(kind):
        k = source.randrange(many)
        found.append(good[:k] + (bad,) + good[k + 1:])
    return tuple(found)


def wrongs(kind, history):
    """What is not as stated, for each name of a parameter that has to be as told of this kind and history."""
    many = len(history)
    return {
        "kind": samples.NO_KINDS,
        "changes": no_changes(kind, many),
        "bases": no_plans(history),
        "one": no_plans(history),
        "other": no_plans(history),
        "sheets": no_changes(kind, many),
        "version": samples.no_versions(history) + (0,),
        "versions": samples.no_sets(history),
        "change": no_change(kind),
        "many": NO_NUMBERS,
    }

