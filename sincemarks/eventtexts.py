"""Events and logs as lines."""
from sincemarks.boundkinds import MOST, is_up_to
from sincemarks.changetexts import change_in, change_word
from sincemarks.errors import InvalidText
from sincemarks.historykinds import is_parent
from sincemarks.historytexts import kind_line, read_kind
from sincemarks.kinds import is_natural, is_number
from sincemarks.liveevents import PARTS, is_event, is_log, is_part, is_some_event, many_after
from sincemarks.usable import require
from sincemarks.words import are_lines, integer_in, numbers_line, read_at, require_each
from sincemarks.worthkinds import is_kind


def event_line(kind, event):
    """The name of an event and its parts."""
    require(is_kind(kind), "kind")
    require(is_some_event(kind, event), "event")
    if event[0] == "graft":
        _, version, parents, changes = event
        head = numbers_line("graft", (version, len(parents)) + parents)
        return " ".join([head] + [change_word(kind, change) for change in changes])
    words = [_part_word(kind, form, part) for form, part in zip(PARTS[event[0]], event[1:])]
    return " ".join([event[0]] + words)


def _part_word(kind, form, part):
    return change_word(kind, part) if form == "change" else str(part)


def read_event(kind, text):
    """The event with this line; InvalidText tells from which word on it is none."""
    require(is_kind(kind), "kind")
    require(isinstance(text, str), "text")
    words = text.split(" ")
    if words[0] == "graft":
        return _graft_in(kind, words)
    if words[0] not in PARTS:
        raise InvalidText(0, 0)
    forms = PARTS[words[0]]
    parts = [_part_in(kind, form, word) for form, word in zip(forms, words[1:])]
    # What is too much has no form, so it is not read.
    surplus = [None] * (len(words) - 1 - len(parts))
    require_each(parts + surplus, len(forms), lambda index, part: is_part(kind, forms[index], part), 1)
    return (words[0],) + tuple(parts)


def _part_in(kind, form, word):
    return change_in(kind, word) if form == "change" else integer_in(word)


def _graft_in(kind, words):
    version = integer_in(words[1]) if len(words) > 1 else None
    if not is_number(version):
        raise InvalidText(0, 1)
    many = integer_in(words[2]) if len(words) > 2 else None
    if not is_natural(many):
        raise InvalidText(0, 2)
    # Where the changes begin, if there are as many parents as told.
    first = 3 + many
    parents = [integer_in(word) for word in words[3:first]]
    require_each(parents, many, lambda index, parent: is_parent(index, parent), 3)
    changes = [change_in(kind, word) for word in words[first:]]
    require_each(changes, many, lambda index, change: change is not None, first)
    return ("graft", version, tuple(parents), tuple(changes))


def log_lines(log):
    """The line of the kind, that of the roof and the usual bounds, and a line for each event."""
    require(is_log(log), "log")
    kind, roof, width, reach, events = log
    head = [kind_line(kind), numbers_line("live", (roof, width, reach))]
    return tuple(head + [event_line(kind, event) for event in events])


def read_log(lines):
    """The log with these lines; InvalidText tells from where on it is none."""
    require(are_lines(lines), "lines")
    kind = read_at(lines, 0, read_kind)
    roof, width, reach = read_at(lines, 1, _level_in)
    many = 0
    events = []
    for index in range(2, len(lines)):
        event = read_at(lines, index, lambda text: read_event(kind, text))
        if not is_event(kind, many, event):
            raise InvalidText(index, 0)
        many = many_after(many, event)
        events.append(event)
    return (kind, roof, width, reach, tuple(events))


def _level_in(text):
    """The roof and the usual bounds that a line tells."""
    words = text.split(" ")
    if words[0] != "live":
        raise InvalidText(0, 0)
    numbers = [integer_in(word) for word in words[1:]]
    require_each(numbers, 3, lambda index, number: _is_in_level(numbers, index), 1)
    return tuple(numbers)


def _is_in_level(numbers, index):
    # The reach, which comes last, is at most the roof, which comes first.
    return is_up_to(numbers[0] if index == 2 else MOST, numbers[index])
