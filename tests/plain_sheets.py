"""Plain counts of sheets by plans: their worths, pieces, mending, losses, made step by step."""
import itertools

from tests import plain, plain_stores
from tests.plain_stores import chain, later


def all_plans(history):
    """All plans of a small history."""
    return [bases for bases in plain_stores.all_bases(history) if plain_stores.is_plan(history, bases)]


def filled(kind, history, changes, bases):
    sheets = [plain_stores.sheet(history, bases, version) for version in later(history)]
    return tuple(plain.whole(kind, [changes[change - 1] for change in sheet]) for sheet in sheets)


def asked(kind, bases, sheets, version):
    return plain.whole(kind, [sheets[v - 1] for v in reversed(chain(bases, version))])


def pieces(history, bases, version):
    """Those of the parent's chain that have the base among their elders."""
    parent, base = history[version - 1], bases[version - 1]
    return tuple(v for v in sorted(chain(bases, parent)) if base in plain.elders(history, v))


def made(kind, history, changes, bases, sheets, version):
    parts = [sheets[v - 1] for v in pieces(history, bases, version)] + [changes[version - 1]]
    return plain.whole(kind, parts)


def remade(kind, history, changes, bases, sheets, versions):
    now = list(sheets)
    for version in sorted(versions):
        now[version - 1] = made(kind, history, changes, bases, now, version)
    return tuple(now)


def holders(history, bases, change):
    return tuple(v for v in later(history) if change in plain_stores.sheet(history, bases, v))


def mended(kind, history, changes, bases, sheets, version, change):
    put = tuple(change if v == version else told for v, told in enumerate(changes, start=1))
    return put, remade(kind, history, put, bases, sheets, holders(history, bases, version))


def cost(history, bases, versions):
    return len(versions), sum(len(pieces(history, bases, version)) for version in versions)


def spoiled(history, bases, versions):
    return tuple(v for v in later(history) if set(chain(bases, v)) & set(versions))


def most_spoiled(history, bases, many):
    """By trying all sets of at most so many versions."""
    sets = [
        lost for few in range(min(many, len(history)) + 1) for lost in itertools.combinations(later(history), few)
    ]
    return max(len(spoiled(history, bases, lost)) for lost in sets)


def rewritten(one, other):
    return tuple(v for v, (base, then) in enumerate(zip(one, other), start=1) if base != then)
