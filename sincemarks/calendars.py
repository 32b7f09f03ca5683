"""Backups by days, whose reaches hang on how old they are."""
from sincemarks.boundkinds import MOST, is_up_to
from sincemarks.chains import chain_in
from sincemarks.grafts import line_of
from sincemarks.historykinds import all_later, is_version
from sincemarks.kinds import is_number, is_set
from sincemarks.losses import spoiled_by
from sincemarks.tracks import require_line_plan
from sincemarks.usable import least_from, require
from sincemarks.walks import can_keep, plan_for


def is_ages(thing):
    """Whether thing is a nonempty tuple of pairs (age, reach), the ages rising."""
    if not isinstance(thing, tuple) or len(thing) == 0 or not all([_has_reach(pair) for pair in thing]):
        return False
    return is_set(tuple([age for age, _ in thing]))


def _has_reach(thing):
    return isinstance(thing, tuple) and len(thing) == 2 and is_up_to(MOST, thing[1])


def calendar_bounds(days, width, ages):
    """The bounds of the line of so many days, each with the reach of its age."""
    require(is_number(days), "days")
    require(is_up_to(MOST, width), "width")
    require(is_ages(ages), "ages")
    pairs = [(width, _reach_at(ages, days - version)) for version in range(1, days + 1)]
    return (max([reach for _, reach in ages]), tuple(pairs))


def _reach_at(ages, old):
    """The reach of the first pair whose age is at least so old, otherwise of the last one."""
    for age, reach in ages:
        if age >= old:
            return reach
    return ages[-1][1]


def backup_plan(days, width, ages):
    """A plan that keeps these bounds; Unkept tells a set of days that rules it out."""
    bounds = calendar_bounds(days, width, ages)
    return plan_for(line_of(days), bounds)


def backup_width(days, ages):
    """The least width with which these bounds can be kept, 1 for no days."""
    require(is_number(days), "days")
    # No change is in more sheets than there are days.
    return least_from(1, max(1, days), lambda width: can_keep(line_of(days), calendar_bounds(days, width, ages)))


def put_back(bases, version):
    """The set of the days whose sheets give back a day, by a line plan."""
    require_line_plan(bases, "bases")
    require(is_version(bases, version), "version")
    return chain_in(bases, version)[::-1]


def full_days(bases):
    """The set of the days with base 0."""
    require_line_plan(bases, "bases")
    return tuple([day for day in all_later(bases) if bases[day - 1] == 0])


def lost_days(bases, versions):
    """The set of the days that cannot be given back without the sheets of versions."""
    require_line_plan(bases, "bases")
    return spoiled_by(line_of(len(bases)), bases, versions)
