"""Plain counts of rows, walks, walls and numbers of rows, made step by step."""
from math import factorial

from tests import plain, plain_stores
from tests.plain_stores import later


# Rows.

def is_row(thing):
    return (
        type(thing) is tuple and all(type(member) is int and member > 0 for member in thing)
        and list(thing) == sorted(thing, reverse=True)
    )


def merged(rows):
    row = []
    for member in [member for told in rows for member in told]:
        place = sum(other >= member for other in row)
        row.insert(place, member)
    return tuple(row)


def stepped(width, floor, row):
    # How many members are t or above changes behind a member only.
    heights = [t for t in (floor, *[member + 1 for member in row]) if t >= floor]
    height = min(t for t in heights if sum(member >= t for member in row) < width)
    return tuple(member for member in row if member >= height) + (height,)


def unlike_at(one, other):
    unlike = [value for value in {*one, *other} if one.count(value) != other.count(value)]
    return max(unlike, default=0)


def is_less(one, other):
    """Whether one has fewer members of the greatest value of which the rows have not equally many."""
    value = unlike_at(one, other)
    return one.count(value) < other.count(value)


# Bounds and the walk.

def is_up_to(most, thing):
    return type(thing) is int and 1 <= thing <= most


def bounds_fault(history, thing):
    """The word and place that the checker is to give, None for bounds."""
    if not plain.is_tuple_of(thing, 2):
        return ("shape", -1)
    if not is_up_to(999, thing[0]):
        return ("roof", 0)
    if not plain.is_tuple_of(thing[1], len(history)):
        return ("many", 1)
    for k, pair in enumerate(thing[1]):
        if not plain.is_tuple_of(pair, 2):
            return ("pair", k)
        if not is_up_to(999, pair[0]):
            return ("width", k)
        if not is_up_to(thing[0], pair[1]):
            return ("reach", k)
    return None


def level(history, width, reach):
    return reach, tuple((width, reach) for _ in history)


def raised(bounds, many):
    roof, pairs = bounds
    return roof + many, tuple((width, reach + many) for width, reach in pairs)


def one_bound(bounds, version, width, reach):
    roof, pairs = bounds
    return roof, tuple((width, reach) if v == version else pair for v, pair in enumerate(pairs, start=1))


def walk(history, bounds, versions=None):
    """The rows of the walk on a set of versions, by version, the greatest one first."""
    roof, pairs = bounds
    chosen = tuple(later(history)) if versions is None else versions
    rows = {}
    for version in reversed(chosen):
        width, reach = pairs[version - 1]
        below = [rows[v] for v in chosen if v > version and plain.left_parent(history, chosen, v) == version]
        rows[version] = stepped(width, roof + 1 - reach, merged(below))
    return rows


def rows_of(history, bounds):
    return tuple(row for _, row in sorted(walk(history, bounds).items()))


def top(history, bounds):
    return max([member for row in walk(history, bounds).values() for member in row], default=0)


def is_walled(history, bounds, versions):
    return any(member > bounds[0] for row in walk(history, bounds, versions).values() for member in row)


def wall_in(history, bounds):
    left = tuple(later(history))
    if not is_walled(history, bounds, left):
        return None
    for version in reversed(later(history)):
        others = tuple(v for v in left if v != version)
        if is_walled(history, bounds, others):
            left = others
    return left


def first_broken(history, bounds, store):
    """What a right store breaks first, None if it keeps the bounds."""
    writes, reads = plain_stores.writes(history, store), plain_stores.reads(store)
    for version in later(history):
        if writes[version - 1] > bounds[1][version - 1][0]:
            return ("writes", version)
    for version in later(history):
        if reads[version] > bounds[1][version - 1][1]:
            return ("reads", version)
    return None


def counts_of_bases(history):
    """The pairs (writes, reads from version 1 on) of all bases of a history, each once."""
    found = set()
    for bases in plain_stores.all_bases(history):
        store = plain_stores.based(history, bases)
        found.add((plain_stores.writes(history, store), plain_stores.reads(store)[1:]))
    return found


def is_kept_by_some(counts, bounds):
    """Whether some of these pairs is within the bounds."""
    widths = [width for width, _ in bounds[1]]
    reaches = [reach for _, reach in bounds[1]]
    return any(
        all(a <= b for a, b in zip(writes, widths)) and all(a <= b for a, b in zip(reads, reaches))
        for writes, reads in counts
    )


# Papers of bounds.

def paper_fault(history, bounds, thing):
    """The word and place that the checker is to give, None for a paper."""
    if not plain.is_tuple_of(thing, 2) or type(thing[0]) is not str or thing[0] not in ("plan", "wall"):
        return ("shape", -1)
    if thing[0] == "plan":
        if not plain_stores.is_plan(history, thing[1]):
            return ("plan", 1)
        return first_broken(history, bounds, plain_stores.based(history, thing[1]))
    if type(thing[1]) is not tuple or not thing[1]:
        return ("wall", 1)
    ahead = []
    for k, entry in enumerate(thing[1]):
        if not plain.is_tuple_of(entry, 2) or type(entry[0]) is not int or not 1 <= entry[0] <= len(history):
            return ("entry", k)
        version, row = entry
        if ahead and version >= ahead[-1][0]:
            return ("entry", k)
        chosen = (version, *[v for v, _ in reversed(ahead)])
        below = [told for v, told in ahead if plain.left_parent(history, chosen, v) == version]
        width, reach = bounds[1][version - 1]
        if not is_row(row) or row != stepped(width, bounds[0] + 1 - reach, merged(below)):
            return ("row", k)
        ahead.append(entry)
    return None if any(member > bounds[0] for _, row in ahead for member in row) else ("roof", -1)


# Numbers of rows.

def choose(top_number, few):
    """How many sets of few of so many things there are, both small, or few small."""
    if few > top_number:
        return 0
    product = 1
    for k in range(few):
        product *= top_number - k
    return product // factorial(few)


def capacity(width, reach):
    return choose(width + reach, reach)


def all_rows(width, reach):
    """All rows of at most width members, none above reach, in their order."""
    found, longer = [()], [()]
    for _ in range(width):
        longer = [row + (member,) for row in longer for member in range(1, (row[-1] if row else reach) + 1)]
        found += longer
    return sorted(found)


def number_of(width, row):
    return sum(choose(member + width - i, width - i + 1) for i, member in enumerate(row, start=1))


def row_of(width, number):
    """The row of this number, found from its greatest member on, each by trying digit by digit."""
    row, left = (), number
    for places in range(width, 0, -1):
        member = 0
        for digit in reversed(range(left.bit_length() + 1)):
            if choose(member + 2 ** digit + places - 1, places) <= left:
                member += 2 ** digit
        if member == 0:
            break
        row += (member,)
        left -= choose(member + places - 1, places)
    return row


def joined(width, numbers):
    row = ()
    for number in numbers:
        row = merged((row, row_of(width, number)))[:width]
    return number_of(width, row)
