"""Whether stores keep bounds."""
from sincemarks.boundkinds import require_bounds
from sincemarks.faults import require_right
from sincemarks.storecounts import reads_of, writes_of


def keeps(history, bounds, store):
    """Whether a right store has no more writes and reads than the bounds let."""
    return broken_at(history, bounds, store) is None


def broken_at(history, bounds, store):
    """The first change with more writes, or version with more reads, than the bounds let."""
    require_bounds(history, bounds)
    require_right(history, store)
    return first_above(bounds, writes_of(history, store), reads_of(history, store))


def first_above(bounds, writes, reads):
    """The word and number of the first of writes, then of reads, above its bound, None if there is none."""
    pairs = bounds[1]
    for version, (width, _) in enumerate(pairs, start=1):
        if writes[version - 1] > width:
            return ("writes", version)
    # Version 0 has no bounds: where a store is right, it reads nothing.
    for version, (_, reach) in enumerate(pairs, start=1):
        if reads[version] > reach:
            return ("reads", version)
    return None
