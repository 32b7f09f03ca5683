"""What events do to what a live book tells: its history, changes, bounds and usual bounds."""
from sincemarks.boundmaking import one_bound
from sincemarks.chains import holders_of
from sincemarks.grafts import grafted
from sincemarks.historykinds import all_later
from sincemarks.liveevents import is_event, many_after
from sincemarks.states import taken_over
from sincemarks.thinning import thinned
from sincemarks.walks import can_keep

# How many changes a book has at most.
MOST_CHANGES = 24


def first_reason(kind, told, full, event):
    """The first reason to refuse an event, None if there is none; a full book takes no event at all."""
    many = len(told[0])
    if not is_event(kind, many, event):
        return "form"
    if full:
        return "many"
    if many_after(many, event) > MOST_CHANGES:
        return "size"
    # Where an event has a reach, it is the last part.
    if event[0] in ("pledge", "bound", "usual") and event[-1] > told[2][0]:
        return "roof"
    history, _, bounds, _ = applied(kind, told, event)
    return None if can_keep(history, bounds) else "bounds"


def applied(kind, told, event):
    """What the book tells after an event of the right form, no reach of which is above the roof."""
    history, changes, bounds, usual = told
    name = event[0]
    if name == "commit":
        return _hung(told, event[1], (0,), (event[2],), usual)
    if name == "pledge":
        return _hung(told, event[1], (0,), (event[2],), event[3:])
    if name == "take":
        change = taken_over(kind, history, changes, event[1], event[2])
        return _hung(told, event[1], (0,), (change,), usual)
    if name == "graft":
        return _hung(told, event[1], event[2], event[3], usual)
    if name == "mend":
        _, version, change = event
        return (history, changes[:version - 1] + (change,) + changes[version:], bounds, usual)
    if name == "drop":
        others = tuple([version for version in all_later(history) if version != event[1]])
        return thinned(kind, history, changes, bounds, others) + (usual,)
    if name == "bound":
        _, version, width, reach = event
        return (history, changes, one_bound(history, bounds, version, width, reach), usual)
    return (history, changes, bounds, event[1:])


def _hung(told, version, parents, added, pair):
    """What the book tells with parents, their changes and this pair as their bounds, below version."""
    history, changes, bounds, usual = told
    roof, pairs = bounds
    return (grafted(history, version, parents), changes + added, (roof, pairs + (pair,) * len(parents)), usual)


def written_by(event, before, history, bases):
    """The set of the versions whose sheets an event had to write, before being the bases ahead of it."""
    kept = _renumbered(before, event[1]) if event[0] == "drop" else before
    held = holders_of(history, bases, event[1]) if event[0] == "mend" else ()
    written = [at for at in all_later(history) if at > len(kept) or kept[at - 1] != bases[at - 1] or at in held]
    return tuple(written)


def _renumbered(bases, version):
    """The bases without a version, by the numbers that the others then have; None for this version."""
    others = bases[:version - 1] + bases[version:]
    return tuple([None if base == version else base - 1 if base > version else base for base in others])
