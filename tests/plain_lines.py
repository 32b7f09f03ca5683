"""Plain counts of line plans, their trees and numbers, made step by step."""
import functools
import itertools

from tests import plain_bounds, plain_stores


def line(many):
    return tuple(range(many))


@functools.lru_cache(maxsize=None)
def all_plans(many):
    """All plans of the line of many changes, found among all its bases."""
    bases = itertools.product(*[range(k + 1) for k in range(many)])
    return tuple(told for told in bases if plain_stores.is_plan(line(many), told))


def some_plan(many, source):
    """Any plan of a line: that of heights."""
    heights = tuple(source.randint(1, source.choice((2, 4, many + 1))) for _ in range(many))
    return plain_stores.bases_by(line(many), heights)


def is_line_plan(thing):
    return type(thing) is tuple and plain_stores.is_plan(line(len(thing)), thing)


def cut(bases):
    return max(version for version, base in enumerate(bases, start=1) if base == 0)


def parts(bases):
    """The plan ahead and the plan behind."""
    at = cut(bases)
    versions = range(1, len(bases) + 1)
    return tuple(bases[v - 1] for v in versions if v < at), tuple(bases[v - 1] - at for v in versions if v > at)


def tree(bases):
    """None for a bud, otherwise the pair of the trees of both sides."""
    return None if bases == () else tuple(tree(part) for part in parts(bases))


def track(bases):
    return "-" if bases == () else "+" + "".join(track(part) for part in parts(bases))


def is_track(thing):
    """By putting buds for trees of one inner node, again and again."""
    if type(thing) is not str:
        return False
    while "+--" in thing:
        thing = thing.replace("+--", "-")
    return thing == "-"


def turns(told, lefts=0, rights=0):
    """The turns to each bud of a tree."""
    if told is None:
        return ((lefts, rights),)
    left, right = told
    return turns(left, lefts + 1, rights) + turns(right, lefts, rights + 1)


def reads(bases):
    return tuple(len(plain_stores.chain(bases, version)) for version in range(len(bases) + 1))


def writes(bases):
    versions = range(1, len(bases) + 1)
    return tuple(sum(bases[v - 1] < change <= v for v in versions) for change in versions)


def in_order(many):
    """All plans of many changes by cut, then by the number of the plan ahead, then of the one behind."""
    if many == 0:
        return ((),)
    found = []
    for at in range(1, many + 1):
        for ahead in in_order(at - 1):
            for behind in in_order(many - at):
                found.append(ahead + (0,) + tuple(base + at for base in behind))
    return tuple(found)


def least_counts(many, reach):
    """The u_1, u_2, .. of the guarantee, by their definition."""
    found = []
    for i in range(1, many + 1):
        found.append(next(u for u in itertools.count() if plain_bounds.choose(u + reach, reach) > i))
    return tuple(found)


def grown_plan(reach, many):
    """The bases of a line by the rows of its versions' numbers."""
    return tuple(
        plain_bounds.number_of(reach, plain_bounds.row_of(reach, version)[:-1]) for version in range(1, many + 1)
    )
