"""[37] The walk, and whether bounds can be kept; [G2] and [G3]."""
import itertools

from sincemarks.baseskinds import is_plan
from sincemarks.boundmaking import raised_bounds
from sincemarks.chains import store_by, writes_by
from sincemarks.heights import bases_by, open_row
from sincemarks.keeping import keeps
from sincemarks.walks import can_keep, plan_for, rows_of, top_of, walk_heights
from sincemarks.walls import wall_in
from tests import bound_samples, plain, plain_bounds, plain_stores, samples, store_samples
from tests.cases import Case

SHORT, TIGHT = (0, 1), (2, ((1, 2), (1, 1)))
LEVEL = (2, ((2, 2),) * 5)


class Walks(Case):
    def looked_at(self, history, bounds):
        rows = plain_bounds.rows_of(history, bounds)
        top = plain_bounds.top(history, bounds)
        self.gives(rows, rows_of, history, bounds)
        self.gives(tuple(row[-1] for row in rows), walk_heights, history, bounds)
        self.gives(top, top_of, history, bounds)
        self.gives(top <= bounds[0], can_keep, history, bounds)
        if top <= bounds[0]:
            plan = self.answer(plan_for, history, bounds)
            self.keeps_them(history, bounds, plan)
        else:
            self.fails("Unkept", (plain_bounds.wall_in(history, bounds),), plan_for, history, bounds)

    def keeps_them(self, history, bounds, plan):
        """The plan is that of the walk's heights, and its store keeps the bounds."""
        self.assertTrue(plain_stores.is_plan(history, plan))
        heights = tuple(row[-1] for row in plain_bounds.rows_of(history, bounds))
        self.same(plan, plain_stores.bases_by(history, heights))
        self.same(plain_bounds.first_broken(history, bounds, plain_stores.based(history, plan)), None)

    def test_by_hand(self):
        self.gives((0, 1, 0, 3, 3), plan_for, samples.LINE, LEVEL)
        self.gives(((2, 2), (2, 1), (2,), (1, 1), (1,)), rows_of, samples.LINE, LEVEL)
        self.gives((2, 1, 2, 1, 1), walk_heights, samples.LINE, LEVEL)
        self.gives(((3,), (2,)), rows_of, SHORT, TIGHT)
        self.gives((3, 2), walk_heights, SHORT, TIGHT)
        self.gives(3, top_of, SHORT, TIGHT)
        self.gives(False, can_keep, SHORT, TIGHT)
        self.fails("Unkept", ((1, 2),), plan_for, SHORT, TIGHT)
        self.fails("Unkept", ((1, 2, 3, 4, 5, 6),), plan_for, tuple(range(6)), (2, ((2, 2),) * 6))
        # A floor lifts what would be lower; a leaf's row is its floor alone.
        self.gives(((5, 3, 3), (3,), (5,)), rows_of, (0, 1, 1), (5, ((3, 3), (1, 3), (1, 1))))
        # The top may be in a row that is not a child's of the first.
        self.gives(5, top_of, (0, 1, 1), (5, ((3, 3), (1, 3), (1, 1))))

    def test_the_top_is_not_the_height_of_the_last(self):
        # Rows keep greater members of branches.
        self.gives(((9, 2, 2, 2),) + ((9,), (2,), (2,)), rows_of, (0, 1, 1, 1), (9, ((4, 8), (1, 1), (1, 8), (1, 8))))

    def test_no_changes(self):
        for roof in (1, 2, 999):
            self.gives((), rows_of, (), (roof, ()))
            self.gives((), walk_heights, (), (roof, ()))
            self.gives(0, top_of, (), (roof, ()))
            self.gives(True, can_keep, (), (roof, ()))
            self.gives((), plan_for, (), (roof, ()))

    def test_any_bounds(self):
        for history in samples.SMALL[1:] + samples.LARGE[::3]:
            for bounds in bound_samples.some_bounds(history, 1):
                self.looked_at(history, bounds)

    def test_forty(self):
        for history in bound_samples.FORTY:
            for bounds in bound_samples.some_bounds(history, 2):
                self.looked_at(history, bounds)

    def test_the_row_depends_on_the_roof_the_branch_and_its_bounds_alone(self):
        for history in samples.SMALL[10:] + (samples.FORK,):
            for bounds in list(bound_samples.some_bounds(history, 1))[2:]:
                rows = rows_of(history, bounds)
                for version in range(1, len(history) + 1):
                    branch = plain.branch(history, version)
                    alone = plain.left_on(history, branch)
                    kept = bounds[0], tuple(bounds[1][v - 1] for v in branch)
                    self.same(rows_of(alone, kept)[0], rows[version - 1])
                    others = bounds[0], tuple(
                        pair if v in branch else (1, bounds[0]) for v, pair in enumerate(bounds[1], start=1)
                    )
                    self.same(rows_of(history, others)[version - 1], rows[version - 1])

    def test_refusals(self):
        for history in (SHORT, samples.WIDE, samples.FORK):
            wrongs = {"bounds": bound_samples.bad_bounds(history, 2)}
            for function in (rows_of, walk_heights, top_of, can_keep, plan_for):
                self.refuses_each(function, (history, plain_bounds.level(history, 9, 9)), wrongs)


class Keepable(Case):
    def test_against_all_bases(self):
        found = set()
        counts = {}
        for history, bounds in bound_samples.small_bounds():
            if history not in counts:
                counts[history] = plain_bounds.counts_of_bases(history)
            want = plain_bounds.is_kept_by_some(counts[history], bounds)
            self.same(can_keep(history, bounds), want, (history, bounds))
            self.same(top_of(history, bounds) <= bounds[0], want)
            found.add(want)
            if want:
                plan = plan_for(history, bounds)
                self.assertTrue(is_plan(history, plan))
                self.assertIsNone(plain_bounds.first_broken(history, bounds, plain_stores.based(history, plan)))
        self.assertEqual(found, {True, False})

    def test_larger_against_all_bases(self):
        for history in (samples.LINE, (0, 1, 1, 2, 2), (0, 0, 1, 3, 3), (0, 1, 2, 2, 2)):
            counts = plain_bounds.counts_of_bases(history)
            for bounds in list(bound_samples.all_bounds(history, 2, 2))[::5]:
                self.same(can_keep(history, bounds), plain_bounds.is_kept_by_some(counts, bounds), (history, bounds))

    def test_against_all_small_stores(self):
        for history in ((0,), (0, 1), (0, 0)):
            bounds_there = list(bound_samples.all_bounds(history, 2, 2))
            kept = set()
            for many in range(4):
                for store in store_samples.all_stores(history, many):
                    if plain_stores.fault(history, store) is None:
                        kept |= {b for b in bounds_there if plain_bounds.first_broken(history, b, store) is None}
            for bounds in bounds_there:
                self.same(can_keep(history, bounds), bounds in kept, (history, bounds))

    def test_stores_that_keep_tell_that_bounds_can_be_kept(self):
        for history in samples.SMALL[2::3] + samples.LARGE[:3]:
            for store in store_samples.right_stores(history, 1):
                for bounds in list(bound_samples.some_bounds(history, 1))[::2]:
                    if keeps(history, bounds, store):
                        self.same(can_keep(history, bounds), True)

    def test_raised_by_the_top_less_the_roof(self):
        for history in samples.SMALL[1:] + samples.LARGE[:6]:
            for bounds in list(bound_samples.some_bounds(history, 1))[::2]:
                reaches = [reach for _, reach in bounds[1]]
                d = top_of(history, bounds) - bounds[0]
                self.assertGreaterEqual(min(reaches) + d, 1)
                for many in (d - 2, d - 1, d, d + 1):
                    if min(reaches) + many >= 1 and bounds[0] + many <= 999:
                        self.same(can_keep(history, raised_bounds(history, bounds, many)), many >= d)

    def test_the_wall(self):
        for history in samples.SMALL[3::2] + samples.LARGE[:4]:
            for bounds in bound_samples.some_bounds(history, 1):
                if not can_keep(history, bounds):
                    self.fails("Unkept", (wall_in(history, bounds),), plan_for, history, bounds)


class Heights(Case):
    def test_of_all_heights_the_walk_has_the_least_open_rows(self):
        for history in samples.SMALL[1:20] + ((0, 1, 2, 3), (0, 1, 1, 1), (0, 1, 2, 2)):
            for bounds in list(bound_samples.all_bounds(history, 2, 2))[::5]:
                rows = rows_of(history, bounds)
                floors = [bounds[0] + 1 - reach for _, reach in bounds[1]]
                for heights in itertools.product(*[range(floor, 4) for floor in floors]):
                    writes = writes_by(history, bases_by(history, heights))
                    if all(many <= width for many, (width, _) in zip(writes, bounds[1])):
                        for version, row in enumerate(rows, start=1):
                            self.assertLessEqual(row, open_row(history, heights, version), (history, bounds, heights))

    def test_the_row_of_the_walk_is_the_open_row(self):
        for history in samples.SMALL[1:] + samples.LARGE:
            for bounds in list(bound_samples.some_bounds(history, 1))[1::3]:
                heights, rows = walk_heights(history, bounds), rows_of(history, bounds)
                for version in range(1, len(history) + 1):
                    self.same(open_row(history, heights, version), rows[version - 1])
                writes = writes_by(history, bases_by(history, heights))
                self.same(writes, tuple(len(row) for row in rows))
                self.assertTrue(all(many <= width for many, (width, _) in zip(writes, bounds[1])))
                self.assertTrue(all(
                    height > bounds[0] - reach for height, (_, reach) in zip(heights, bounds[1])
                ))

    def test_the_store_of_the_plan_keeps(self):
        for history in samples.LARGE:
            for bounds in bound_samples.some_bounds(history, 1):
                if can_keep(history, bounds) and len(history) <= 24:
                    self.same(keeps(history, bounds, store_by(history, plan_for(history, bounds))), True)
