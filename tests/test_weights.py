"""[46] Weights; what [G5] says of them."""
from sincemarks.choosing import capacity
from sincemarks.rownumbers import number_of
from sincemarks.walks import can_keep, rows_of
from sincemarks.walls import wall_in
from sincemarks.weights import fits_level, forest_weight, weight_of, weights_of
from tests import bound_samples, plain, plain_bounds, plain_levels, samples
from tests.cases import Case

LEVELS = ((1, 1), (1, 2), (2, 1), (1, 4), (2, 2), (3, 2), (2, 3), (5, 1), (5, 5))


class Weights(Case):
    def looked_at(self, history, width):
        weights = plain_levels.weights(history, width)
        self.gives(tuple(weights[v] for v in range(1, len(history) + 1)), weights_of, history, width)
        for version, weight in weights.items():
            self.gives(weight, weight_of, history, width, version)
        self.gives(plain_levels.forest(history, width), forest_weight, history, width)

    def test_by_hand(self):
        self.gives((5, 2, 1, 4, 3, 2, 1), weights_of, samples.FORK, 2)
        self.gives(5, forest_weight, samples.FORK, 2)
        self.gives(4, weight_of, samples.FORK, 2, 4)
        self.gives((5, 4, 3, 2, 1), weights_of, samples.LINE, 7)
        self.gives((2, 1, 1, 1), weights_of, samples.WIDE, 1)
        self.gives((3, 1, 1, 1), weights_of, samples.WIDE, 2)
        self.gives((4, 1, 1, 1), weights_of, samples.WIDE, 3)
        self.gives((4, 1, 1, 1), weights_of, samples.WIDE, 40)
        self.gives(40, forest_weight, (0,) * 40, 40)
        self.gives(39, forest_weight, (0,) * 40, 39)
        self.gives(1, forest_weight, (0,) * 40, 1)

    def test_no_changes(self):
        for width in (1, 2, 40):
            self.gives((), weights_of, (), width)
            self.gives(0, forest_weight, (), width)
            for reach in (1, 99):
                self.gives(True, fits_level, (), width, reach)

    def test_any_histories(self):
        for history in samples.SMALL + samples.LARGE[:3]:
            for width in (1, 2, 3, 5, 40):
                self.looked_at(history, width)

    def test_forty(self):
        for history in bound_samples.FORTY + samples.LARGE[5::3]:
            for width in (1, 2, 3, 39, 40):
                self.gives(tuple(sorted(plain_levels.weights(history, width).items()))[0][1],
                           weight_of, history, width, 1)
                self.gives(plain_levels.forest(history, width), forest_weight, history, width)

    def test_they_number_the_rows_of_the_walk_for_each_reach(self):
        for history in samples.SMALL + samples.LARGE[::2]:
            for width in (1, 2, 3, 40):
                weights = weights_of(history, width)
                for reach in (1, 2, 7, 99):
                    rows = rows_of(history, plain_bounds.level(history, width, reach))
                    self.same(tuple(number_of(width, row) for row in rows), weights)

    def test_levels(self):
        for history in samples.SMALL + samples.LARGE + bound_samples.FORTY:
            for width, reach in LEVELS + ((40, 99), (39, 1), (40, 1), (1, 39), (1, 40)):
                want = can_keep(history, plain_bounds.level(history, width, reach))
                self.gives(want, fits_level, history, width, reach)
                self.same(want, forest_weight(history, width) < capacity(width, reach))

    def test_refusals(self):
        bad = bound_samples.NO_NATURALS
        for history in (samples.WIDE, samples.FORK):
            versions = bound_samples.bad_versions(history)
            self.refuses_each(weight_of, (history, 2, 1), {"width": bad, "version": versions})
        for history in ((), samples.WIDE, samples.FORK):
            self.refuses_each(weights_of, (history, 2), {"width": bad})
            self.refuses_each(forest_weight, (history, 2), {"width": bad})
            self.refuses_each(fits_level, (history, 2, 2), {"width": bad, "reach": bad})


class Guarantees(Case):
    def test_between_ways_and_branches(self):
        for history in samples.SMALL + samples.LARGE:
            for width in (1, 2, 3, 40):
                for version, weight in enumerate(weights_of(history, width), start=1):
                    branch = plain.branch(history, version)
                    ways = [len(plain.path(history, v)) - len(plain.path(history, version)) + 1 for v in branch]
                    self.assertLessEqual(max(ways), weight)
                    self.assertLessEqual(weight, len(branch))
                    if width == 1:
                        self.same(weight, max(ways))

    def test_lines(self):
        for many in range(41):
            for width in (1, 2, 40):
                self.same(forest_weight(tuple(range(many)), width), many)

    def test_fewer_changes_than_the_capacity(self):
        for history in samples.SMALL + samples.LARGE:
            for width, reach in LEVELS:
                if len(history) < capacity(width, reach):
                    self.same(fits_level(history, width, reach), True)
                line = tuple(range(len(history)))
                self.same(fits_level(line, width, reach), len(line) < capacity(width, reach))

    def test_least_walls_of_a_level(self):
        found = 0
        for history in samples.SMALL + samples.LARGE + bound_samples.FORTY:
            for width, reach in LEVELS:
                wall = wall_in(history, plain_bounds.level(history, width, reach))
                if wall is not None:
                    found += 1
                    self.assertGreaterEqual(len(wall), capacity(width, reach))
                    alone = plain.left_on(history, wall)
                    weights = plain_levels.weights(alone, width)
                    below = plain_bounds.joined(width, [weights[v] for v in plain.children(alone, 1)])
                    self.same(below, capacity(width, reach) - 1)
                    self.same(weight_of(alone, width, 1), capacity(width, reach))
        self.assertGreater(found, 50)
