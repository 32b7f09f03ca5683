"""The parts of line plans, and their reads and writes."""
from sincemarks.chains import reads_by, writes_by
from sincemarks.grafts import line_of
from sincemarks.tracks import cut_in, is_line_plan, parts_at, plan_of_parts, require_line_plan
from sincemarks.usable import require


def joined_plans(one, other):
    """The line plan whose plan ahead is one and whose plan behind is other."""
    require_line_plan(one, "one")
    require_line_plan(other, "other")
    return plan_of_parts(one, other)


def cut_of(bases):
    """The last version with base 0, of a line plan other than ()."""
    require(is_line_plan(bases) and len(bases) > 0, "bases")
    return cut_in(bases)


def parts_of(bases):
    """The plan ahead and the plan behind, of a line plan other than ()."""
    return parts_at(bases, cut_of(bases))


def line_reads(bases):
    """How many sheets each version reads, from version 0 on."""
    require_line_plan(bases, "bases")
    return reads_by(line_of(len(bases)), bases)


def line_writes(bases):
    """By how many sheets each change is held, from change 1 on."""
    require_line_plan(bases, "bases")
    return writes_by(line_of(len(bases)), bases)
