"""The plans of lines, as trees."""
from sincemarks.historykinds import is_history
from sincemarks.usable import require


def is_line_plan(thing):
    """Whether thing is a plan of the line of as many changes as it has elements."""
    # On a line all lesser versions are elders, so bases are just such tuples as histories are.
    if not is_history(thing):
        return False
    chain = [0]
    for index, base in enumerate(thing):
        # By a plan each base is in the chain of the version ahead, or is 0.
        while chain[-1] > base:
            chain.pop()
        if chain[-1] != base:
            return False
        chain.append(index + 1)
    return True


def require_line_plan(bases, name):
    """Refuse the parameter of this name unless it is a line plan."""
    require(is_line_plan(bases), name)


def cut_in(bases):
    """The last version with base 0, of a line plan other than ()."""
    return len(bases) - bases[::-1].index(0)


def parts_at(bases, cut):
    """The plan ahead of the cut and the plan behind it."""
    return (bases[:cut - 1], tuple([base - cut for base in bases[cut:]]))


def plan_of_parts(ahead, behind):
    """The line plan whose plan ahead and whose plan behind these are."""
    cut = len(ahead) + 1
    return ahead + (0,) + tuple([base + cut for base in behind])


def is_track(thing):
    """Whether thing is the track of a line plan."""
    if not isinstance(thing, str):
        return False
    # How many plans are still to be told.
    lacking = 1
    for sign in thing:
        if lacking == 0 or sign not in "+-":
            return False
        lacking += 1 if sign == "+" else -1
    return lacking == 0


def track_of(bases):
    """The track of a line plan."""
    require_line_plan(bases, "bases")
    # The plans still to be told, the next one last.
    plans = [bases]
    track = ""
    while plans:
        plan = plans.pop()
        track += "+" if plan else "-"
        if plan:
            ahead, behind = parts_at(plan, cut_in(plan))
            plans.extend([behind, ahead])
    return track


def bases_from(track):
    """The line plan with this track."""
    require(is_track(track), "track")
    # Read backwards, the plans ahead and behind are there when they are needed, the one ahead last.
    plans = []
    for sign in reversed(track):
        if sign == "+":
            ahead, behind = plans.pop(), plans.pop()
            plans.append(plan_of_parts(ahead, behind))
        else:
            plans.append(())
    return plans[0]


def turns_of(track):
    """For each bud, how many turns to the left and how many to the right lead to it."""
    require(is_track(track), "track")
    # How the trees are reached that are still to come, the next one last.
    ways = [(0, 0)]
    buds = []
    for sign in track:
        lefts, rights = ways.pop()
        if sign == "+":
            ways.extend([(lefts, rights + 1), (lefts + 1, rights)])
        else:
            buds.append((lefts, rights))
    return tuple(buds)


def mirrored(bases):
    """The line plan whose tree has both sides exchanged everywhere."""
    require_line_plan(bases, "bases")
    if len(bases) == 0:
        return ()
    ahead, behind = parts_at(bases, cut_in(bases))
    return plan_of_parts(mirrored(behind), mirrored(ahead))
