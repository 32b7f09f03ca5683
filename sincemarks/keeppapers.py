"""Papers that tell whether bounds can be kept."""
from sincemarks.walks import plan_for
from sincemarks.walls import rows_on, wall_in


def keep_paper(history, bounds):
    """A plan that keeps the bounds, or a wall with its rows if they cannot be kept."""
    wall = wall_in(history, bounds)
    if wall is None:
        return ("plan", plan_for(history, bounds))
    return ("wall", rows_on(history, bounds, wall))
