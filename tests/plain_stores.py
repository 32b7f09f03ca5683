"""Plain counts of stores, bases, good versions, papers and heights, made step by step."""
import itertools

from tests import plain


def later(history):
    """All versions from 1 on."""
    return range(1, len(history) + 1)


# Stores: what they hold, and what versions make of it.

def store_fault(history, thing):
    """The word and place that the checker is to give, None for a store."""
    if not plain.is_tuple_of(thing, 2) or type(thing[0]) is not tuple or type(thing[1]) is not tuple:
        return ("shape", -1)
    sheets, read = thing
    for k, sheet in enumerate(sheets):
        if not plain.is_set(sheet) or not sheet or not set(sheet) <= set(later(history)):
            return ("sheet", k)
    if len(read) != len(history) + 1:
        return ("many", -1)
    for version, numbers in enumerate(read):
        if not plain.is_set(numbers) or not set(numbers) <= set(range(len(sheets))):
            return ("read", version)
    return None


def writes(history, store):
    return tuple(sum(change in sheet for sheet in store[0]) for change in later(history))


def reads(store):
    return tuple(len(numbers) for numbers in store[1])


def lean(store):
    sheets, read = store
    places = {}
    for number in range(len(sheets)):
        if any(number in numbers for numbers in read):
            places[number] = len(places)
    return tuple(sheets[number] for number in places), tuple(
        tuple(places[number] for number in numbers) for numbers in read
    )


def fault(history, store):
    sheets, read = store
    for version, numbers in enumerate(read):
        held = set().union(*[sheets[number] for number in numbers])
        wrong = held ^ set(plain.path(history, version))
        if wrong:
            return version, min(wrong)
    return None


def manner_at(history, store, version):
    """The manner of a version of a right store."""
    sheets, read = store
    here = [sheets[number] for number in read[version]]
    if any(set(one) & set(other) for one, other in itertools.combinations(here, 2)):
        return "any"
    path = plain.path(history, version)
    stretches = {path[k:end] for k in range(len(path)) for end in range(k + 1, len(path) + 1)}
    return "order" if set(here) <= stretches else "once"


def manner(history, store):
    manners = {manner_at(history, store, version) for version in range(len(history) + 1)}
    return next(word for word in ("any", "once", "order") if word in manners)


def answer(kind, changes, store, version):
    sheets, read = store
    here = sorted(read[version], key=lambda number: (max(sheets[number]), number))
    worths = [plain.whole(kind, [changes[change - 1] for change in sheets[number]]) for number in here]
    return plain.whole(kind, worths)


def is_served(kind, told_manner):
    need = {"peak": "any", "set": "any", "sum": "once"}.get(kind[0], "order")
    return (need, told_manner) in (
        ("any", "any"), ("any", "once"), ("any", "order"), ("once", "once"), ("once", "order"), ("order", "order"),
    )


# Bases.

def all_bases(history):
    return itertools.product(*[sorted(plain.elders(history, version)) for version in later(history)])


def chain(bases, version):
    found = []
    while version:
        found.append(version)
        version = bases[version - 1]
    return tuple(found)


def sheet(history, bases, version):
    without = set(plain.path(history, bases[version - 1]))
    return tuple(v for v in plain.path(history, version) if v not in without)


def based(history, bases):
    """The store that bases make."""
    return tuple(sheet(history, bases, version) for version in later(history)), tuple(
        tuple(sorted(v - 1 for v in chain(bases, version))) for version in range(len(history) + 1)
    )


def crossings(history, bases):
    """All pairs (v, z) by which bases are no plan."""
    found = []
    for z in later(history):
        for v in later(history):
            base = bases[z - 1]
            if v in plain.elders(history, z) and base in plain.elders(history, v):
                upper = bases[v - 1]
                if base != upper and base not in plain.elders(history, upper):
                    found.append((v, z))
    return found


def is_bases(history, thing):
    return plain.is_tuple_of(thing, len(history)) and all(
        type(base) is int and base in plain.elders(history, k + 1) for k, base in enumerate(thing)
    )


def is_plan(history, thing):
    return is_bases(history, thing) and not crossings(history, thing)


# Good versions and the papers of leading.

def seen_by(store, part):
    """The numbers of the sheets that some version of the part reads."""
    return {number for version in part for number in store[1][version]}


def may_hold(history, store, part, version, change):
    """The sheets that may stand for a change on the version's way."""
    cut = {number: set(store[0][number]) & set(part) for number in seen_by(store, part)}
    branch = plain.branch(history, version)
    return [number for number, held in sorted(cut.items()) if change in held and max(held) in branch]


def may_read(history, store, part, version, reader):
    """The sheets that may stand for a version of the branch."""
    way = set(plain.path(history, version)) & set(part)
    cut = {number: set(store[0][number]) & set(part) for number in store[1][reader]}
    return [number for number, held in sorted(cut.items()) if held and held <= way]


def choices(history, store, part, version):
    """The sheets that may stand for each change on the way, and for each version of the branch."""
    way = [v for v in plain.path(history, version) if v in part]
    branch = [v for v in plain.branch(history, version) if v in part]
    return (
        [may_hold(history, store, part, version, change) for change in way],
        [may_read(history, store, part, version, reader) for reader in branch],
    )


def good_signs(history, store, version):
    if version == 0:
        return None
    holders, readers = choices(history, store, tuple(later(history)), version)
    if not all(holders) or not all(readers):
        return None
    return tuple(found[0] for found in holders), tuple(found[0] for found in readers)


def are_chosen(thing, found):
    return plain.is_tuple_of(thing, len(found)) and all(
        type(number) is int and number in numbers for number, numbers in zip(thing, found)
    )


def followed(history, store, paper):
    """What a paper comes to: its bases and None, or None and the word and place of its first fault."""
    if not plain.is_tuple_of(paper, len(history)):
        return None, ("shape", -1)
    parts = {0: set(later(history))}
    bases = {}
    for k, step in enumerate(paper):
        if not plain.is_tuple_of(step, 4):
            return None, ("step", k)
        ground, version, holders, readers = step
        if type(ground) is not int or ground not in parts:
            return None, ("ground", k)
        if type(version) is not int or version not in parts[ground]:
            return None, ("version", k)
        holding, reading = choices(history, store, tuple(sorted(parts[ground])), version)
        if not are_chosen(holders, holding):
            return None, ("holders", k)
        if not are_chosen(readers, reading):
            return None, ("readers", k)
        branch = set(plain.branch(history, version))
        bases[version] = ground
        parts[version] = parts[ground] & branch - {version}
        parts[ground] = parts[ground] - branch
    return tuple(bases[version] for version in later(history)), None


# Heights.

def bases_by(history, heights):
    above = {0: float("inf"), **dict(enumerate(heights, start=1))}
    return tuple(
        next(v for v in plain.elders(history, version) if above[v] > above[version]) for version in later(history)
    )


def heights_of(history, bases):
    many = [len(chain(bases, version)) for version in range(len(history) + 1)]
    return tuple(max(many) + 1 - k for k in many[1:])


def open_at(history, heights, version):
    bases = bases_by(history, heights)
    above = plain.elders(history, version)
    return tuple(z for z in plain.branch(history, version) if bases[z - 1] in above)
