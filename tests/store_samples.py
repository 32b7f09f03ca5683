"""Stores, bases and heights of all sorts for the tests."""
import itertools

from tests import plain, plain_stores, samples

MANNERS = ("order", "once", "any")


def all_stores(history, many):
    """All stores of a history with so many sheets."""
    versions = range(1, len(history) + 1)
    sets = [held for size in versions for held in itertools.combinations(versions, size)]
    numbers = [told for size in range(many + 1) for told in itertools.combinations(range(many), size)]
    for sheets in itertools.product(sets, repeat=many):
        for read in itertools.product(numbers, repeat=len(history) + 1):
            yield sheets, read


def split(path, manner, source):
    """Sets of changes that together are the path, at most three."""
    if not path:
        return []
    if manner == "order":
        ends = sorted({0, len(path), source.randint(0, len(path)), source.randint(0, len(path))})
        return [path[low:high] for low, high in zip(ends, ends[1:])]
    most = 1 if manner == "once" else 2
    groups = [set(), set(), set()]
    for change in path:
        for k in source.sample(range(3), source.randint(1, most)):
            groups[k].add(change)
    return [tuple(sorted(group)) for group in groups if group]


def some_store(history, manner, source, spare=4):
    """A right store: mostly of this manner, with sheets that are equal, shared, unread, in any order."""
    sheets, read = [], []
    for version in range(len(history) + 1):
        here = manner if source.random() < 0.7 else source.choice(MANNERS[:MANNERS.index(manner) + 1])
        numbers = []
        for sheet in split(plain.path(history, version), here, source):
            if sheet not in sheets or source.random() < 0.1:
                sheets.append(sheet)
            numbers.append(len(sheets) - 1 if sheets[-1] == sheet else sheets.index(sheet))
        read.append(numbers)
    versions = range(1, len(history) + 1)
    for _ in range(source.randint(0, spare) if history else 0):
        sheets.append(tuple(sorted(source.sample(versions, source.randint(1, len(history))))))
    return turned(sheets, read, source)


def turned(sheets, read, source):
    """The store with its sheets in another sequence."""
    order = source.sample(range(len(sheets)), len(sheets))
    places = {number: place for place, number in enumerate(order)}
    return (
        tuple(sheets[number] for number in order),
        tuple(tuple(sorted({places[number] for number in numbers})) for numbers in read),
    )


def wasted(history, store, source):
    """A right store with more: versions read sheets within their paths, too."""
    sheets, read = store
    more = []
    for version, numbers in enumerate(read):
        path = set(plain.path(history, version))
        fit = [k for k, sheet in enumerate(sheets) if set(sheet) <= path]
        more.append(tuple(sorted({*numbers, *source.sample(fit, min(len(fit), source.randint(0, 2)))})))
    return sheets, tuple(more)


def right_stores(history, many=6):
    """Right stores of each manner, wasteful ones among them."""
    source = samples.chance("stores", history, many)
    for manner in MANNERS:
        for _ in range(many):
            store = some_store(history, manner, source)
            yield store
            yield wasted(history, store, source)
    for bases in some_bases(history, many):
        yield plain_stores.based(history, bases)


def bent_stores(history, store, source, many=6):
    """Stores with changes taken out of sheets or put in, sheets no longer read or read beside others."""
    sheets, read = store
    if not sheets:
        return
    for _ in range(many):
        k, version = source.randrange(len(sheets)), source.randrange(len(read))
        change = source.randint(1, len(history))
        sheet = tuple(sorted({*sheets[k]} ^ {change}))
        if sheet:
            yield sheets[:k] + (sheet,) + sheets[k + 1:], read
        numbers = tuple(sorted({*read[version]} ^ {k}))
        yield sheets, read[:version] + (numbers,) + read[version + 1:]


def faulty_stores(history, many=6):
    """Stores of a history that are not right."""
    source = samples.chance("faulty", history, many)
    for store in list(right_stores(history, 2)):
        for bent in bent_stores(history, store, source, many):
            if plain_stores.fault(history, bent):
                yield bent


def some_bases(history, many=6):
    """Bases, plans among them: near, far, by heights, and any."""
    versions = range(1, len(history) + 1)
    source = samples.chance("bases", history)
    yield tuple(history)
    yield (0,) * len(history)
    for _ in range(many):
        yield tuple(source.choice(plain.elders(history, version)) for version in versions)
        heights = tuple(source.randint(1, 4) for _ in versions)
        yield plain_stores.bases_by(history, heights)


# For a history of at least two changes, what is no store of it; the second element is as the checker tells.
def no_stores(history):
    many = len(history)
    rows = ((),) * (many + 1)
    return (
        None, True, 0, "store", (), [], ((),), [(), rows], ((), list(rows)), ([], rows), ((), rows, ()),
        ((1,), rows), (((),), rows), (((0,),), rows), (((many + 1,),), rows), (((True,),), rows),
        (([1],), rows), (((1, 1),), rows), ((("1",),), rows), ((None,), rows), ((1,), ()),
        ((), ()), ((), rows[1:]), ((), rows + ((),)), ((), ((0,),) + rows[1:]), ((), rows[1:] + (None,)),
        ((), rows[1:] + ([],)), ((), rows[1:] + (0,)), (((1,),), rows[1:] + ((1,),)),
        (((1,),), rows[1:] + ((False,),)), (((1,),), rows[1:] + ((-1,),)), (((1,),), rows[1:] + ((0, 0),)),
        (((1,), (1,)), rows[1:] + ((1, 0),)), (((1,), (1,)), rows[1:] + ((0, 1, 2),)),
    ) + (() if many < 2 else ((((2, 1),), rows), (((1, 2), (2, 2)), rows), (((1, True),), rows)))


def no_bases(history):
    """What is no bases of a history with at least one change."""
    many = len(history)
    found = [None, True, 0, "", "bases", list(history), history + (0,), history[:-1], (history,), [], ((),) * many]
    for k in range(many):
        versions = [v for v in range(-1, many + 2) if v not in plain.elders(history, k + 1)]
        for wrong in (*versions, True, False, None, "0", (0,), [0], samples.GREAT):
            found.append(history[:k] + (wrong,) + history[k + 1:])
    return tuple(found)


def no_heights(history):
    """What is no heights of a history with at least one change."""
    many = len(history)
    ones = (1,) * many
    found = [None, True, 0, 1, "", "heights", list(ones), ones + (1,), ones[1:], (ones,), [], ((),) * many]
    for k in range(many):
        for wrong in (0, -1, -samples.GREAT, True, False, None, "1", (1,), [1]):
            found.append(ones[:k] + (wrong,) + ones[k + 1:])
    return tuple(found)
