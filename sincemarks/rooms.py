"""How much there is room for in histories that can be kept at a level."""
from sincemarks.boundmaking import level_bounds
from sincemarks.branches import children_of
from sincemarks.errors import Unkept
from sincemarks.historykinds import is_later_version, is_version
from sincemarks.joining import top_merged
from sincemarks.kinds import is_natural
from sincemarks.rownumbers import number_of, row_of
from sincemarks.usable import least_from, require
from sincemarks.walls import wall_in
from sincemarks.weights import fits_level, weights_of


def room_of(history, width, reach, version):
    """The length of the longest line that may stand in the place of the branch of a version from 1 on."""
    _require_level(width, reach)
    require(is_later_version(history, version), "version")
    return rooms_of(history, width, reach)[version][0]


def spare_of(history, width, reach, version):
    """The length of the longest line that may be hung below a version."""
    _require_level(width, reach)
    require(is_version(history, version), "version")
    return rooms_of(history, width, reach)[version][1]


def _require_level(width, reach):
    require(is_natural(width), "width")
    require(is_natural(reach), "reach")


def rooms_of(history, width, reach):
    """The pairs (room, spare) of all versions from 0 on, the room of 0 being None."""
    _require_level(width, reach)
    if not fits_level(history, width, reach):
        raise Unkept(wall_in(history, level_bounds(history, width, reach)))
    rows = [row_of(width, weight) for weight in weights_of(history, width)]
    # What is below a version, joined, stays below its limit: its room, for version 0 the capacity. All as rows.
    limits = [(reach + 1,)]
    for index, parent in enumerate(history):
        beside = [rows[child - 1] for child in children_of(history, parent) if child != index + 1]
        limits.append(_most_beside(width, beside, limits[parent]))
    spares = []
    for version, limit in enumerate(limits):
        below = [rows[child - 1] for child in children_of(history, version)]
        spares.append(number_of(width, _most_beside(width, below, limit)))
    rooms = [number_of(width, limit) for limit in limits[1:]]
    return tuple(zip([None] + rooms, spares))


def _most_beside(width, rows, limit):
    """The greatest row that, joined with rows, is less than limit, as these are without it."""
    others = top_merged(width, rows)
    row = ()
    member = limit[0]
    # The greatest row has the greatest first member, with this one the greatest second one, and so on.
    while len(row) < width:
        member = _most_behind(width, row, member, others, limit)
        if member == 0:
            break
        row += (member,)
    return row


def _most_behind(width, row, most, others, limit):
    """The greatest member up to most with which row, joined with others, is less than limit; 0 if there is none."""
    too_great = least_from(1, most, lambda member: top_merged(width, [row + (member,), others]) >= limit)
    return most if too_great is None else too_great - 1
