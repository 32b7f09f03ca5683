"""Line plans with the least counts there can be."""
from sincemarks.kinds import is_natural, is_number
from sincemarks.tracks import bases_from, mirrored, plan_of_parts, turns_of
from sincemarks.usable import require


def full_plan(width, reach):
    """The only line plan of capacity less 1 changes with no writes above width and no reads above reach."""
    require(is_natural(width), "width")
    require(is_natural(reach), "reach")
    return _full(width, reach)


def _full(width, reach):
    if width == 0 or reach == 0:
        return ()
    # What is ahead of the cut is written once more by it, what is behind it is read once more.
    return plan_of_parts(_full(width - 1, reach), _full(width, reach - 1))


def best_plan(many, reach):
    """A line plan of many changes with no reads above reach whose writes, sorted, are the least."""
    require(is_number(many), "many")
    require(is_natural(reach), "reach")
    track = "-"
    for _ in range(many):
        track = _with_fork(track, _least_bud(track, reach))
    return bases_from(track)


def _least_bud(track, reach):
    """The first bud with the least writes among those that may become a fork by reads of at most reach."""
    ways = [(lefts, bud) for bud, (lefts, rights) in enumerate(turns_of(track)) if rights < reach]
    return min(ways)[1]


def _with_fork(track, bud):
    """The track of the tree with an inner node that has two buds in place of a bud."""
    ahead = track.split("-")
    return "-".join(ahead[:bud + 1]) + "+--" + "-".join(ahead[bud + 1:])


def best_for_writes(many, width):
    """A line plan of many changes with no writes above width whose reads, sorted, are the least."""
    require(is_number(many), "many")
    require(is_natural(width), "width")
    # Mirrored, writes become reads and reads become writes.
    return mirrored(best_plan(many, width))
