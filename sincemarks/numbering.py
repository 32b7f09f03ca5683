"""The line plans of so many changes, numbered by their cuts, then their plans ahead, then those behind."""
from sincemarks.counting import plans_many
from sincemarks.kinds import is_number
from sincemarks.tracks import cut_in, parts_at, plan_of_parts, require_line_plan
from sincemarks.usable import require


def plan_number(bases):
    """The number of a line plan among those of as many changes."""
    require_line_plan(bases, "bases")
    if len(bases) == 0:
        return 0
    cut = cut_in(bases)
    ahead, behind = parts_at(bases, cut)
    lesser = sum([_plans_cut(len(bases), at) for at in range(1, cut)])
    return lesser + plan_number(ahead) * plans_many(len(behind)) + plan_number(behind)


def _plans_cut(many, cut):
    """How many line plans of many changes have this cut."""
    return plans_many(cut - 1) * plans_many(many - cut)


def plan_at(many, number):
    """The line plan of many changes that has this number."""
    require(is_number(many), "many")
    require(is_number(number) and number < plans_many(many), "number")
    if many == 0:
        return ()
    cut, left = 1, number
    while left >= _plans_cut(many, cut):
        left -= _plans_cut(many, cut)
        cut += 1
    ahead, behind = divmod(left, plans_many(many - cut))
    return plan_of_parts(plan_at(cut - 1, ahead), plan_at(many - cut, behind))
