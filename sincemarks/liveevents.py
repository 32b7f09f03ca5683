"""The events of live books, by their form."""
from sincemarks.boundkinds import MOST, is_up_to
from sincemarks.historykinds import is_history
from sincemarks.kinds import is_natural, is_number
from sincemarks.usable import require
from sincemarks.worthkinds import are_changes, is_change, is_kind

# What stands behind the name of an event, part by part: a version, one from 1 on, a change, or a bound.
PARTS = {
    "commit": ("version", "change"),
    "pledge": ("version", "change", "bound", "bound"),
    "take": ("version", "version"),
    "mend": ("later", "change"),
    "drop": ("later",),
    "bound": ("later", "bound", "bound"),
    "usual": ("bound", "bound"),
}


def is_event(kind, many, thing):
    """Whether thing is an event of kind for a book of many changes."""
    require(is_kind(kind), "kind")
    require(is_number(many), "many")
    return is_some_event(kind, thing) and _greatest_named(thing) <= many


def is_some_event(kind, thing):
    """Whether thing is an event of kind, which is a kind, for some number of changes."""
    if not isinstance(thing, tuple) or len(thing) == 0 or not isinstance(thing[0], str):
        return False
    if thing[0] == "graft":
        return _is_graft(kind, thing)
    if thing[0] not in PARTS:
        return False
    forms = PARTS[thing[0]]
    if len(thing) != 1 + len(forms):
        return False
    return all([is_part(kind, form, part) for form, part in zip(forms, thing[1:])])


def is_part(kind, form, thing):
    """Whether thing is a part of this form of an event of kind."""
    if form == "version":
        return is_number(thing)
    if form == "later":
        return is_natural(thing)
    if form == "change":
        return is_change(kind, thing)
    return is_up_to(MOST, thing)


def _is_graft(kind, thing):
    if len(thing) != 4:
        return False
    _, version, parents, changes = thing
    if not is_number(version) or not is_history(parents) or len(parents) == 0:
        return False
    return are_changes(kind, changes) and len(changes) == len(parents)


def _greatest_named(event):
    """The greatest version that an event names, 0 if it names none."""
    if event[0] == "graft":
        return event[1]
    forms = PARTS[event[0]]
    return max([0] + [part for form, part in zip(forms, event[1:]) if form in ("version", "later")])


def many_after(many, event):
    """How many changes there are after an event for many changes."""
    if event[0] == "graft":
        return many + len(event[2])
    if event[0] == "drop":
        return many - 1
    return many + 1 if event[0] in ("commit", "pledge", "take") else many


def is_log(thing):
    """Whether thing is a log, whose events a book may refuse."""
    if not isinstance(thing, tuple) or len(thing) != 5:
        return False
    kind, roof, width, reach, events = thing
    if not is_kind(kind) or not is_level(roof, width, reach) or not isinstance(events, tuple):
        return False
    many = 0
    for event in events:
        if not is_event(kind, many, event):
            return False
        many = many_after(many, event)
    return True


def is_level(roof, width, reach):
    """Whether a book may have this roof and the usual bounds (width, reach)."""
    return is_up_to(MOST, roof) and is_up_to(MOST, width) and is_up_to(roof, reach)
