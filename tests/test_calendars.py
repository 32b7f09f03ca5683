"""Backups by days."""
from sincemarks.boundmaking import level_bounds
from sincemarks.calendars import (
    backup_plan, backup_width, calendar_bounds, full_days, is_ages, lost_days, put_back,
)
from sincemarks.chains import store_by
from sincemarks.keeping import keeps
from tests import bound_samples, line_samples, plain_bounds, plain_lines, plain_stores, samples
from tests.cases import Case, exactly
from tests.samples import GREAT

AGES = ((1, 2), (3, 1))
CALENDARS = (
    AGES, ((0, 1),), ((0, 5),), ((30, 2),), ((0, 999),), ((0, 1), (1, 2), (2, 3)), ((0, 3), (1, 2), (5, 1)), ((6, 3), (20, 2), (GREAT, 1)),
    ((2, 1), (3, 9), (4, 1)), ((GREAT, 4),), ((1, 1), (7, 4)),
)
NO_AGES = (
    None, True, 0, "", (), [], [(0, 1)], (0, 1), (1, 2), ((0,),), ((0, 1, 2),), ([0, 1],), (((0, 1),),), ((-1, 1),), ((True, 1),),
    ((False, 1),), ((None, 1),), (("0", 1),), ((0, 0),), ((0, -1),), ((0, 1000),), ((0, GREAT),), ((0, True),), ((0, None),), ((0, "1"),),
    ((1, 2), (1, 1)), ((1, 2), (0, 1)), ((0, 1), (5, 1), (4, 1)), ((1, 2), (3, 0)), ((1, 2), (3, 1000)), ((1, 2), [3, 1]), ((1, 2), 3),
    ((1, 2), None), ((1, 2), ()), ((1, 2), (True, 1)), ((0, 1), (True, 1)), {}, "ab", ("ab",),
)


def bounds_of(days, width, ages):
    """The bounds, each day's reach looked up by its age."""
    def reach(age):
        fit = [told for least, told in ages if least >= age]
        return fit[0] if fit else ages[-1][1]
    return max(told for _, told in ages), tuple((width, reach(days - version)) for version in range(1, days + 1))


class Ages(Case):
    def test_ages(self):
        for ages in CALENDARS:
            self.gives(True, is_ages, ages)
        for thing in NO_AGES + samples.ODD + samples.STRINGS + samples.INTEGERS:
            self.gives(exactly(thing, ((0, 1),)), is_ages, thing)
        for reach in (1, 2, 998, 999):
            self.gives(True, is_ages, ((0, reach),))
        self.gives(True, is_ages, tuple((age, 1) for age in range(5000)))


class Bounds(Case):
    def test_by_hand(self):
        self.gives((2, ((2, 1), (2, 1), (2, 2), (2, 2))), calendar_bounds, 4, 2, AGES)
        self.gives((0, 0, 2, 2), backup_plan, 4, 2, AGES)
        self.gives(2, backup_width, 4, AGES)
        self.fails("Unkept", ((1, 2),), backup_plan, 4, 1, AGES)
        self.gives((2, ()), calendar_bounds, 0, 999, AGES)
        self.gives((), backup_plan, 0, 1, AGES)
        self.gives(1, backup_width, 0, AGES)
        self.gives(1, backup_width, 1, ((0, 1),))
        # An age beyond all pairs has the last one's reach.
        self.gives((9, ((1, 4), (1, 4), (1, 9))), calendar_bounds, 3, 1, ((0, 9), (1, 4)))

    def test_any(self):
        for ages in CALENDARS:
            for days in (0, 1, 2, 3, 7, 15, 24):
                for width in (1, 2, 3, 999):
                    bounds = bounds_of(days, width, ages)
                    self.gives(bounds, calendar_bounds, days, width, ages)
                    line = tuple(range(days))
                    wall = plain_bounds.wall_in(line, bounds)
                    if wall is not None:
                        self.fails("Unkept", (wall,), backup_plan, days, width, ages)
                    else:
                        rows = plain_bounds.rows_of(line, bounds)
                        want = plain_stores.bases_by(line, tuple(row[-1] for row in rows))
                        self.gives(want, backup_plan, days, width, ages)
                        self.same(keeps(line, bounds, store_by(line, want)), True)

    def test_the_least_width(self):
        for ages in CALENDARS:
            for days in (*range(9), 16, 24):
                line = tuple(range(days))
                fit = [
                    width for width in range(1, days + 2)
                    if plain_bounds.top(line, bounds_of(days, width, ages)) <= max(reach for _, reach in ages)
                ]
                self.gives(fit[0], backup_width, days, ages)
                self.assertLessEqual(fit[0], max(1, days))

    def test_one_pair_is_a_level(self):
        for reach in (1, 2, 5):
            for age in (0, 3, 99):
                line = tuple(range(7))
                self.gives(level_bounds(line, 4, reach), calendar_bounds, 7, 4, ((age, reach),))

    def test_refusals(self):
        wrongs = {
            "days": bound_samples.NO_NUMBERS, "width": bound_samples.NO_UP_TO_999, "ages": NO_AGES,
        }
        for function in (calendar_bounds, backup_plan):
            self.refuses_each(function, (4, 2, AGES), wrongs)
        self.refuses_each(backup_width, (4, AGES), {name: wrongs[name] for name in ("days", "ages")})
        self.refuses("ages", backup_width, 0, None)
        self.refuses("ages", backup_plan, 4, 1, None)


class Days(Case):
    def test_by_hand(self):
        plan = (0, 0, 2, 2)
        self.gives((2, 4), put_back, plan, 4)
        self.gives((1, 2), full_days, plan)
        self.gives((2, 3, 4), lost_days, plan, (2,))
        self.gives((), put_back, plan, 0)
        self.gives((), put_back, (), 0)
        self.gives((), full_days, ())
        self.gives((), lost_days, (), ())

    def test_any(self):
        for bases in line_samples.plans(5, 6, 24):
            days = range(1, len(bases) + 1)
            for version in (0, *days):
                self.gives(plain_stores.chain(bases, version)[::-1], put_back, bases, version)
            self.gives(tuple(day for day in days if bases[day - 1] == 0), full_days, bases)
            for versions in samples.subsets(bases, 3)[::3]:
                want = tuple(day for day in days if set(plain_stores.chain(bases, day)) & set(versions))
                self.gives(want, lost_days, bases, versions)
            self.gives(tuple(days), lost_days, bases, tuple(days))
            self.gives((), lost_days, bases, ())

    def test_refusals(self):
        bases = (0, 1, 0)
        self.assertTrue(plain_lines.is_line_plan(bases))
        self.refuses_each(put_back, (bases, 2), {"bases": line_samples.NO_PLANS, "version": samples.no_versions(bases)})
        self.refuses_each(full_days, (bases,), {"bases": line_samples.NO_PLANS})
        self.refuses_each(lost_days, (bases, (1,)), {"bases": line_samples.NO_PLANS, "versions": samples.no_sets(bases)})
