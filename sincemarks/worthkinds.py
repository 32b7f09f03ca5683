"""The nine kinds of worths: their changes, blanks and needs."""
from sincemarks.kinds import is_integer, is_letters, is_number, is_set
from sincemarks.usable import require

NEEDS = {
    "sum": "once",
    "peak": "any",
    "set": "any",
    "last": "order",
    "affine": "order",
    "square": "order",
    "turn": "order",
    "tail": "order",
    "text": "order",
}

BLANKS = {
    "sum": 0,
    "peak": 0,
    "set": (),
    "last": (),
    "affine": (1, 0),
    "square": (1, 0, 0, 1),
    "tail": (0, ""),
    "text": "",
}

# The least and the greatest second element of the kinds that have one.
BOUNDS = {"affine": (2, 999), "square": (2, 999), "turn": (1, 9)}


def is_kind_name(thing):
    """Whether thing is one of the nine words with which kinds begin."""
    return isinstance(thing, str) and thing in NEEDS


def kind_length(name):
    """How many elements the kinds of this name have."""
    return 2 if name in BOUNDS else 1


def is_kind_bound(name, thing):
    """Whether thing may be the second element of a kind of this name."""
    least, greatest = BOUNDS[name]
    return is_integer(thing) and least <= thing <= greatest


def kind_fault(thing):
    """The first (word, at) for which thing is no kind, None for a kind."""
    if not isinstance(thing, tuple) or len(thing) not in (1, 2):
        return ("shape", -1)
    if not is_kind_name(thing[0]):
        return ("name", 0)
    if len(thing) != kind_length(thing[0]):
        return ("many", -1)
    if len(thing) == 2 and not is_kind_bound(thing[0], thing[1]):
        return ("bound", 1)
    return None


def is_kind(thing):
    """Whether thing is a kind."""
    return kind_fault(thing) is None


def is_change(kind, thing):
    """Whether thing is a change of kind."""
    require(is_kind(kind), "kind")
    name = kind[0]
    if name == "sum":
        return is_integer(thing)
    if name == "peak":
        return is_number(thing)
    if name == "set":
        return is_set(thing)
    if name == "last":
        return _is_table(thing)
    if name == "affine":
        return _are_below(kind[1], 2, thing)
    if name == "square":
        return _are_below(kind[1], 4, thing)
    if name == "turn":
        return _is_turn(kind[1], thing)
    if name == "tail":
        return _is_tail(thing)
    return is_letters(thing)


def _is_table(thing):
    if not isinstance(thing, tuple) or not all([_is_entry(pair) for pair in thing]):
        return False
    return is_set(tuple([pair[0] for pair in thing]))


def _is_entry(thing):
    if not isinstance(thing, tuple) or len(thing) != 2:
        return False
    return is_number(thing[0]) and (thing[1] is None or is_integer(thing[1]))


def _are_below(modulus, many, thing):
    if not isinstance(thing, tuple) or len(thing) != many:
        return False
    return all([is_number(k) and k < modulus for k in thing])


def _is_turn(size, thing):
    if not _are_below(size, size, thing):
        return False
    return all([k in thing for k in range(size)])


def _is_tail(thing):
    if not isinstance(thing, tuple) or len(thing) != 2:
        return False
    return is_number(thing[0]) and is_letters(thing[1])


def are_changes(kind, thing):
    """Whether thing is a tuple of changes of kind, which is a kind."""
    return isinstance(thing, tuple) and all([is_change(kind, change) for change in thing])


def blank_of(kind):
    """The change that leaves all as it is."""
    require(is_kind(kind), "kind")
    if kind[0] == "turn":
        return tuple(range(kind[1]))
    return BLANKS[kind[0]]


def need_of(kind):
    """How a store must hold changes of kind: "any", "once" or "order"."""
    require(is_kind(kind), "kind")
    return NEEDS[kind[0]]
