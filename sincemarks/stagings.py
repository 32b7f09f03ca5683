"""Sets of runs that stand after each entry, however they come about."""
from sincemarks.grafts import line_of
from sincemarks.kinds import is_set
from sincemarks.leading import led
from sincemarks.pourings import is_pouring, pouring_of, standing_after
from sincemarks.storecounts import reads_of, writes_of
from sincemarks.usable import require

# How many entries and how many writings a staging has at most.
MOST_ENTRIES = 20
MOST_WRITINGS = 80


def is_staging(thing):
    """Whether thing has for each entry the set of the runs that stand after it, together holding all so far."""
    if not isinstance(thing, tuple) or len(thing) > MOST_ENTRIES:
        return False
    if not all([_may_stand(index + 1, standing) for index, standing in enumerate(thing)]):
        return False
    return len(_store_of(thing)[0]) <= MOST_WRITINGS


def _may_stand(many, thing):
    if not isinstance(thing, tuple) or not all([is_set(run) and len(run) > 0 for run in thing]):
        return False
    if not all([low < high for low, high in zip(thing, thing[1:])]):
        return False
    # Where they hold all entries so far, and nothing else, each run is of these alone.
    return sorted({entry for run in thing for entry in run}) == list(range(1, many + 1))


def _store_of(staging):
    sheets = []
    read = [()]
    # The number of the latest writing of each run.
    latest = {}
    before = ()
    for standing in staging:
        for run in standing:
            if run not in before:
                latest[run] = len(sheets)
                sheets.append(run)
        read.append(tuple(sorted([latest[run] for run in standing])))
        before = standing
    return (tuple(sheets), tuple(read))


def staging_of(pouring):
    """The staging of a pouring."""
    require(is_pouring(pouring), "pouring")
    return tuple([_runs_after(pouring, number) for number in range(1, len(pouring) + 1)])


def _runs_after(pouring, number):
    runs = [tuple(range(first, last + 1)) for first, last in standing_after(pouring, number)]
    return tuple(sorted(runs))


def staging_store(staging):
    """The store of the line whose sheets are the runs as they are written."""
    require(is_staging(staging), "staging")
    return _store_of(staging)


def staging_counts(staging):
    """How many sheets hold each entry, and how many runs stand after each."""
    store = staging_store(staging)
    line = line_of(len(staging))
    return (writes_of(line, store), reads_of(line, store)[1:])


def led_pouring(staging):
    """A pouring of as many entries with none of these counts greater."""
    store = staging_store(staging)
    return pouring_of(led(line_of(len(staging)), store))
