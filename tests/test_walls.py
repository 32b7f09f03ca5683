"""[39] The walk on sets of versions, and walls; [G4]."""
import itertools

from sincemarks.boundmaking import one_bound
from sincemarks.cuttings import left_on
from sincemarks.walks import can_keep, rows_of
from sincemarks.walls import rows_on, wall_in, walled
from tests import bound_samples, plain, plain_bounds, samples
from tests.cases import Case

STEEP = plain_bounds.level(samples.LINE, 1, 2)
SHORT, TIGHT = (0, 1), (2, ((1, 2), (1, 1)))


def told_bounds(step=1):
    for history in samples.SMALL[1:] + samples.LARGE[:4]:
        for bounds in list(bound_samples.some_bounds(history, 1))[::step]:
            yield history, bounds


class Sets(Case):
    def looked_at(self, history, bounds, versions):
        walk = plain_bounds.walk(history, bounds, versions)
        self.gives(tuple(walk.items()), rows_on, history, bounds, versions)
        self.gives(plain_bounds.is_walled(history, bounds, versions), walled, history, bounds, versions)

    def test_by_hand(self):
        self.gives(((4, (1,)), (3, (2,)), (1, (3,))), rows_on, samples.LINE, STEEP, (1, 3, 4))
        self.gives(((5, (1,)), (1, (2,))), rows_on, samples.LINE, STEEP, (1, 5))
        self.gives(((2, (2,)), (1, (3,))), rows_on, SHORT, TIGHT, (1, 2))
        self.gives(((2, (2,)),), rows_on, SHORT, TIGHT, (2,))
        for want, versions in (
            (True, (1, 3, 4)), (True, (3, 4, 5)), (True, (1, 2, 3, 4, 5)), (False, (1, 5)), (False, (3,)), (False, ()),
        ):
            self.gives(want, walled, samples.LINE, STEEP, versions)

    def test_none(self):
        for history in samples.SMALL[::3] + samples.LARGE:
            for bounds in list(bound_samples.some_bounds(history, 1))[:3]:
                self.gives((), rows_on, history, bounds, ())
                self.gives(False, walled, history, bounds, ())

    def test_all_versions(self):
        for history, bounds in told_bounds():
            rows = tuple((k, row) for k, row in enumerate(rows_of(history, bounds), start=1))
            versions = tuple(range(1, len(history) + 1))
            self.gives(rows[::-1], rows_on, history, bounds, versions)
            self.same(walled(history, bounds, versions), not can_keep(history, bounds))

    def test_any_sets(self):
        for history, bounds in told_bounds(5):
            for versions in samples.subsets(history, 5):
                self.looked_at(history, bounds, versions)

    def test_forty(self):
        for history in bound_samples.FORTY:
            for bounds in list(bound_samples.some_bounds(history, 1))[::2]:
                for versions in samples.subsets(history, 3):
                    self.looked_at(history, bounds, versions)

    def test_the_walk_on_a_set_is_that_of_what_is_left(self):
        for history, bounds in told_bounds(5):
            for versions in samples.subsets(history, 3)[::3]:
                kept = bounds[0], tuple(bounds[1][v - 1] for v in versions)
                rows = rows_of(left_on(history, versions), kept)
                self.same(tuple(row for _, row in reversed(rows_on(history, bounds, versions))), rows)

    def test_refusals(self):
        for history in (SHORT, samples.WIDE):
            wrongs = {"bounds": bound_samples.bad_bounds(history, 4), "versions": samples.no_sets(history)}
            bounds = plain_bounds.level(history, 2, 2)
            self.refuses_each(rows_on, (history, bounds, (1, 2)), wrongs)
            self.refuses_each(walled, (history, bounds, (1, 2)), wrongs)
            self.refuses_each(wall_in, (history, bounds), wrongs)


class Walls(Case):
    def test_by_hand(self):
        self.gives((1, 2, 3), wall_in, samples.LINE, STEEP)
        self.gives((1, 2), wall_in, SHORT, TIGHT)
        self.gives(None, wall_in, samples.LINE, plain_bounds.level(samples.LINE, 2, 2))
        self.gives((1, 2, 3, 4, 5, 6), wall_in, tuple(range(6)), plain_bounds.level(range(6), 2, 2))
        self.gives((1, 2, 3), wall_in, tuple(range(40)), plain_bounds.level(range(40), 1, 2))
        self.gives((1, 2, 3), wall_in, samples.WIDE, plain_bounds.level(samples.WIDE, 2, 1))
        self.gives(None, wall_in, (), (1, ()))

    def looked_at(self, history, bounds):
        wall = plain_bounds.wall_in(history, bounds)
        self.gives(wall, wall_in, history, bounds)
        self.same(wall is None, can_keep(history, bounds))
        return wall

    def test_by_the_words_of_the_document(self):
        found = [self.looked_at(history, bounds) for history, bounds in told_bounds()]
        self.assertIn(None, found)
        self.assertGreater(len([wall for wall in found if wall]), 50)

    def test_large_histories(self):
        for history in samples.LARGE[4::3] + bound_samples.FORTY:
            for bounds in list(bound_samples.some_bounds(history, 1))[::3]:
                self.looked_at(history, bounds)

    def test_small_bounds(self):
        for history, bounds in list(bound_samples.small_bounds())[::7]:
            self.looked_at(history, bounds)

    def test_it_is_a_least_wall(self):
        for history, bounds in told_bounds():
            wall = wall_in(history, bounds)
            if wall is not None:
                self.same(walled(history, bounds, wall), True)
                for version in wall:
                    others = tuple(v for v in wall if v != version)
                    self.same(walled(history, bounds, others), False)
                if len(wall) < 9:
                    for many in range(len(wall)):
                        for less in itertools.combinations(wall, many):
                            self.assertFalse(plain_bounds.is_walled(history, bounds, less))

    def test_what_contains_a_wall_is_a_wall(self):
        for history, bounds in told_bounds(3):
            wall = wall_in(history, bounds)
            for more in samples.subsets(history, 4) if wall else ():
                self.same(walled(history, bounds, tuple(sorted({*wall, *more}))), True)

    def test_bounds_cannot_be_kept_if_there_is_a_wall(self):
        for history in samples.SMALL[1:]:
            for bounds in list(bound_samples.some_bounds(history, 1))[::3]:
                walls = [versions for versions in samples.subsets(history) if walled(history, bounds, versions)]
                self.same(not walls, can_keep(history, bounds))


class LeastWalls(Case):
    def least_walls(self):
        """Least walls: those that the program tells, and all of small histories."""
        for history, bounds in told_bounds():
            wall = wall_in(history, bounds)
            if wall is not None:
                yield history, bounds, wall
        for history in samples.SMALL[4::3]:
            for bounds in list(bound_samples.some_bounds(history, 1))[::4]:
                walls = [set(versions) for versions in samples.subsets(history) if walled(history, bounds, versions)]
                for wall in walls:
                    if not any(other < wall for other in walls):
                        yield history, bounds, tuple(sorted(wall))

    def test_their_rows_and_children(self):
        for history, bounds, wall in self.least_walls():
            walk = dict(rows_on(history, bounds, wall))
            self.same(walk[wall[0]], (bounds[0] + 1,), (history, bounds, wall))
            for version in wall[1:]:
                self.assertLessEqual(max(walk[version]), bounds[0])
                self.assertIn(wall[0], plain.elders(history, version))
            for version in wall:
                children = [v for v in wall if plain.left_parent(history, wall, v) == version]
                self.assertLessEqual(len(children), bounds[1][version - 1][0])

    def test_how_many_versions_they_have(self):
        for history, bounds, wall in self.least_walls():
            widths = [bounds[1][v - 1][0] for v in wall]
            reaches = [bounds[1][v - 1][1] for v in wall]
            self.assertGreaterEqual(len(wall), plain_bounds.capacity(min(widths), min(reaches)))
            self.assertLessEqual(len(wall), sum(max(widths) ** k for k in range(max(reaches) + 1)))


class Monotony(Case):
    def are_less(self, some, more):
        self.assertTrue(all(one <= other for one, other in zip(some, more, strict=True)), (some, more))

    def test_left_out_no_row_becomes_greater(self):
        for history, bounds in told_bounds(3):
            rows = dict(enumerate(rows_of(history, bounds), start=1))
            for versions in samples.subsets(history, 3)[::3]:
                for version, row in rows_on(history, bounds, versions):
                    self.assertLessEqual(row, rows[version], (history, bounds, versions))

    def test_by_greater_widths_or_reaches_no_row_becomes_greater(self):
        for history, bounds in told_bounds(2):
            rows = rows_of(history, bounds)
            for version in {1, len(history), (len(history) + 1) // 2}:
                width, reach = bounds[1][version - 1]
                for more in {width, min(999, width + 1), 999}:
                    self.are_less(rows_of(history, one_bound(history, bounds, version, more, reach)), rows)
                for more in range(reach, min(bounds[0], reach + 3) + 1):
                    self.are_less(rows_of(history, one_bound(history, bounds, version, width, more)), rows)
