"""Stores and bases as lines."""
from sincemarks.baseskinds import is_base, require_bases
from sincemarks.errors import InvalidText
from sincemarks.kinds import is_number
from sincemarks.storekinds import require_store
from sincemarks.usable import require
from sincemarks.words import are_lines, integers_behind, numbers_line, require_each


def store_lines(history, store):
    """How many sheets there are, each sheet, and what each version reads."""
    require_store(history, store)
    sheets, read = store
    first = numbers_line("store", (len(sheets),))
    sheet_lines = [numbers_line("sheet", sheet) for sheet in sheets]
    read_lines = [numbers_line("read", numbers) for numbers in read]
    return tuple([first] + sheet_lines + read_lines)


def read_store(history, lines):
    """The store with these lines; InvalidText tells from where on it is none."""
    require(are_lines(lines), "lines")
    if len(lines) == 0:
        raise InvalidText(0, 0)
    many = _many_in(lines[0])
    # Where the numbers of the lines begin that tell what is read, and where they end.
    first, end = 1 + many, 1 + many + len(history) + 1
    sheets = [_sheet_in(history, text, 1 + k) for k, text in enumerate(lines[1:first])]
    read = [_set_in("read", 0, many, text, first + k) for k, text in enumerate(lines[first:end])]
    if len(lines) != end:
        raise InvalidText(min(len(lines), end), 0)
    return (tuple(sheets), tuple(read))


def _many_in(text):
    numbers = integers_behind("store", text, 0)
    if len(numbers) == 0 or not is_number(numbers[0]):
        raise InvalidText(0, 1)
    if len(numbers) > 1:
        raise InvalidText(0, 2)
    return numbers[0]


def _sheet_in(history, text, line):
    # No sheet is empty, so a history without changes has no line that begins so.
    if len(history) == 0:
        raise InvalidText(line, 0)
    sheet = _set_in("sheet", 1, len(history) + 1, text, line)
    if len(sheet) == 0:
        raise InvalidText(line, 1)
    return sheet


def _set_in(name, least, end, text, line):
    """The set of numbers from least on, below end, that a line tells behind its name."""
    numbers = integers_behind(name, text, line)
    floor = least
    for index, number in enumerate(numbers):
        if number is None or not floor <= number < end:
            raise InvalidText(line, index + 1)
        floor = number + 1
    return tuple(numbers)


def bases_line(history, bases):
    """The word bases and the bases."""
    require_bases(history, bases)
    return numbers_line("bases", bases)


def read_bases(history, text):
    """The bases with this line; InvalidText tells from which word on it is none."""
    require(isinstance(text, str), "text")
    bases = integers_behind("bases", text, 0)
    require_each(bases, len(history), lambda index, base: is_base(history, index + 1, base), 1)
    return tuple(bases)
