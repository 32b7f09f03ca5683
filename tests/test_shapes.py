"""[51] Shapes."""
from sincemarks.choosing import capacity
from sincemarks.elders import depth_in
from sincemarks.joining import joined
from sincemarks.shapes import (
    is_shape, shape_depth, shape_fits, shape_of, shape_reach, shape_size, shape_weight, unfolded,
)
from sincemarks.weights import forest_weight
from tests import bound_samples, plain, plain_bounds, plain_levels, samples, shape_samples
from tests.cases import Case
from tests.samples import GREAT
from tests.shape_samples import FAR, FORTY_TRIPLES, TWELVE, deep

NO_SHAPES = tuple(shape_samples.no_shapes())


def near_shapes():
    """Shapes of at most forty versions, with their histories."""
    for shape in (*shape_samples.SMALL, *shape_samples.some_shapes(80)):
        history = plain_levels.unfolded(shape)
        if len(history) <= 40:
            yield shape, history


class Kinds(Case):
    def test_shapes(self):
        for shape in (*shape_samples.SMALL, *shape_samples.LARGE, *shape_samples.some_shapes()):
            self.gives(True, is_shape, shape)

    def test_no_shapes(self):
        for thing in NO_SHAPES:
            self.gives(False, is_shape, thing)

    def test_values_of_any_sort(self):
        for thing in samples.ANY:
            self.gives(plain_levels.is_shape(thing), is_shape, thing)
            for part in ((thing, 1, ()), (1, thing, ()), (1, 1, thing)):
                self.gives(plain_levels.is_shape((part,)), is_shape, (part,))

    def test_beyond_the_limits(self):
        for shape in (deep(14), tuple((1, 1, ()) for _ in range(1000)), ((10 ** 59, 10 ** 59, ()),)):
            self.gives(True, is_shape, shape)


class Near(Case):
    def test_against_the_unfolded_history(self):
        for shape, history in near_shapes():
            self.gives(history, unfolded, shape)
            self.gives(len(history), shape_size, shape)
            self.gives(depth_in(history), shape_depth, shape)
            for width in (1, 2, 3, 40):
                self.gives(plain_levels.forest(history, width), shape_weight, width, shape)
                reach = 0
                while not plain_levels.is_kept(history, width, max(1, reach)) or (reach == 0 and history):
                    reach += 1
                self.gives(reach, shape_reach, width, shape)
                for at in {1, 2, max(1, reach - 1), max(1, reach), reach + 1}:
                    self.gives(plain_levels.is_kept(history, width, at), shape_fits, width, at, shape)

    def test_by_hand(self):
        self.gives((), unfolded, ())
        self.gives((0, 1, 1, 1, 4), unfolded, ((1, 1, ((2, 1, ()), (1, 2, ()))),))
        self.gives((0, 1, 2, 0, 4, 5, 0), unfolded, ((2, 3, ()), (1, 1, ())))
        self.gives((0, 1, 2, 2, 0, 5, 6, 6), unfolded, ((2, 2, ((2, 1, ()),)),))
        self.same([shape_size(()), shape_depth(()), shape_weight(2, ()), shape_reach(2, ())], [0, 0, 0, 0])
        self.gives(True, shape_fits, 1, 1, ())

    def test_forty_and_forty_one(self):
        for shape, many in (
            (((40, 1, ()),), 40), (((1, 40, ()),), 40), (((1, 41, ()),), 41), (((41, 1, ()),), 41), (((1, 20, ((5, 4, ()),)),), 40),
            (((1, 20, ((5, 4, ()),)), (1, 1, ())), 41), (((2, 5, ((3, 5, ()),)),), 40), (((2, 5, ((3, 5, ()),)), (1, 1, ())), 41),
            (deep(12, 1, 3) + ((4, 1, ()),), 40), (deep(12, 1, 3) + ((5, 1, ()),), 41),
        ):
            self.gives(many, shape_size, shape)
            if many == 40:
                self.gives(plain_levels.unfolded(shape), unfolded, shape)
            else:
                self.refuses("shape", unfolded, shape)
        for shape in shape_samples.LARGE:
            self.refuses("shape", unfolded, shape)

    def test_shapes_of_histories(self):
        self.gives((), shape_of, ())
        self.gives(((1, 1, ((1, 2, ()), (1, 4, ()))),), shape_of, samples.FORK)
        self.gives(((1, 1, ()),) * 40, shape_of, (0,) * 40)
        self.gives(((1, 40, ()),), shape_of, tuple(range(40)))
        self.gives(((1, 1, ((1, 1, ()),) * 39),), shape_of, (0,) + (1,) * 39)
        self.gives(((1, 2, ()), (1, 2, ())), shape_of, (0, 0, 1, 2))

    def test_shapes_of_any_history(self):
        back = 0
        for history in samples.HISTORIES:
            shape = plain_levels.shape_below(history, 0)
            self.gives(shape, shape_of, history)
            self.same(shape_size(shape), len(history))
            for width in (1, 2, 40):
                self.same(shape_weight(width, shape), forest_weight(history, width))
            # Only where the versions stand in this sequence, each branch in one piece, it is the same history.
            in_pieces = [
                plain.branch(history, v) != tuple(range(v, v + len(plain.branch(history, v))))
                for v in range(1, len(history) + 1)
            ]
            self.same(unfolded(shape) == history, not any(in_pieces))
            back += not any(in_pieces)
        self.assertGreater(back, 15)


class Large(Case):
    def plain_size(self, shape):
        return sum(many * (length + self.plain_size(inner)) for many, length, inner in shape)

    def plain_depth(self, shape):
        return max((length + self.plain_depth(inner) for _, length, inner in shape), default=0)

    def plain_weight(self, width, shape):
        weight = 0
        for many, length, inner in shape:
            one = length + self.plain_weight(width, inner)
            for _ in range(min(many, width)):
                weight = joined(width, weight, one)
        return weight

    def test_by_hand(self):
        self.gives(18000000, shape_size, FAR)
        self.gives(6, shape_depth, FAR)
        self.gives(9, shape_weight, 2, FAR)
        self.gives(3, shape_reach, 2, FAR)
        self.gives(10 ** 25, shape_reach, 1, ((1, 10 ** 25, ()),))
        self.gives(GREAT, shape_weight, 40, ((1, GREAT, ()),))
        self.gives(40, shape_weight, 40, ((GREAT, 1, ()),))
        self.gives(GREAT * 12, shape_depth, TWELVE)
        self.gives(GREAT, shape_depth, FORTY_TRIPLES)

    def test_plain_counts(self):
        for shape in shape_samples.LARGE:
            self.gives(self.plain_size(shape), shape_size, shape)
            self.gives(self.plain_depth(shape), shape_depth, shape)
            for width in (1, 2, 7, 40):
                weight = self.plain_weight(width, shape)
                self.gives(weight, shape_weight, width, shape)
                self.gives(max((0, *plain_bounds.row_of(width, weight))), shape_reach, width, shape)

    def test_fits(self):
        for shape in (*shape_samples.LARGE, *shape_samples.SMALL):
            for width in (1, 3, 40):
                weight, least = shape_weight(width, shape), shape_reach(width, shape)
                for reach in {1, 2, 50, 99, *[k for k in (least - 1, least, least + 1) if 1 <= k <= 99]}:
                    want = weight < capacity(width, reach)
                    self.gives(want, shape_fits, width, reach, shape)
                    self.same(want, least <= reach)

    def test_refusals(self):
        bad = NO_SHAPES[::3]
        for function in (shape_size, shape_depth, unfolded):
            self.refuses_each(function, (shape_samples.SMALL[5],), {"shape": NO_SHAPES})
        wrongs = {"width": bound_samples.NO_NATURALS, "reach": bound_samples.NO_NATURALS, "shape": bad}
        self.refuses_each(shape_weight, (2, FAR), wrongs)
        self.refuses_each(shape_reach, (2, FAR), wrongs)
        self.refuses_each(shape_fits, (2, 2, FAR), wrongs)
