"""The walk through a whole history, and what it tells of its bounds."""
from sincemarks.errors import Unkept
from sincemarks.heights import bases_by
from sincemarks.historykinds import all_later
from sincemarks.walls import rows_on, wall_in


def rows_of(history, bounds):
    """The rows of the walk, from version 1 on."""
    walk = rows_on(history, bounds, all_later(history))
    return tuple([row for _, row in walk[::-1]])


def walk_heights(history, bounds):
    """The heights of the walk, from version 1 on."""
    return tuple([row[-1] for row in rows_of(history, bounds)])


def top_of(history, bounds):
    """The greatest member of all rows of the walk, 0 if there are none."""
    return max([0] + [row[0] for row in rows_of(history, bounds)])


def can_keep(history, bounds):
    """Whether some store of the history keeps the bounds."""
    return top_of(history, bounds) <= bounds[0]


def require_kept(history, bounds):
    """Raise Unkept with a wall if the bounds cannot be kept."""
    wall = wall_in(history, bounds)
    if wall is not None:
        raise Unkept(wall)


def plan_for(history, bounds):
    """A plan that keeps the bounds; Unkept tells a wall if none does."""
    require_kept(history, bounds)
    return bases_by(history, walk_heights(history, bounds))
