"""What any value is to bounds: a plan, a wall, a store that keeps them, or none of these."""
from sincemarks.baseskinds import is_plan
from sincemarks.boundkinds import require_bounds
from sincemarks.chains import store_by
from sincemarks.faults import is_right
from sincemarks.historykinds import are_versions
from sincemarks.keeping import keeps
from sincemarks.storekinds import is_store
from sincemarks.walks import plan_for
from sincemarks.walls import wall_in, walled


def judged(history, bounds, thing):
    """The first of "plan", "wall" and "store" that thing is, else "none"."""
    require_bounds(history, bounds)
    if is_plan(history, thing) and keeps(history, bounds, store_by(history, thing)):
        return "plan"
    if are_versions(history, thing) and walled(history, bounds, thing):
        return "wall"
    if is_store(history, thing) and is_right(history, thing) and keeps(history, bounds, thing):
        return "store"
    return "none"


def settled(history, bounds):
    """A plan that keeps the bounds, or a wall if they cannot be kept."""
    wall = wall_in(history, bounds)
    if wall is not None:
        return ("wall", wall)
    return ("plan", plan_for(history, bounds))
