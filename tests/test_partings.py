"""[49] What tells histories apart, and its checker."""
from sincemarks.partingchecker import lets_parting
from sincemarks.partings import parting_of
from tests import bound_samples, plain, plain_bounds, plain_levels, samples
from tests.cases import Case
from tests.samples import GREAT

STAR, LINE3 = (0, 0, 0), (0, 1, 2)


class Partings(Case):
    def looked_at(self, width, one, other):
        parting = self.answer(parting_of, width, one, other)
        weights = [plain_levels.forest(history, width) for history in (one, other)]
        if weights[0] == weights[1]:
            self.same(parting, None)
            return
        many, reach = parting
        self.same([type(parting), type(many), type(reach)], [tuple, int, int])
        self.assertTrue(1 <= many <= GREAT and 1 <= reach <= 99, parting)
        # True exactly if one weighs less.
        self.gives(weights[0] < weights[1], lets_parting, width, one, other, parting)
        if many < 60:
            built = [plain.hung(plain_levels.line(many), many, history) for history in (one, other)]
            kept = [plain_levels.is_kept(history, width, reach) for history in built]
            self.same(kept, [weights[0] < weights[1], weights[1] < weights[0]])

    def test_pairs_of_small_histories(self):
        histories = samples.SMALL[:10] + samples.SMALL[10::3]
        for width in (1, 2, 3):
            for one in histories:
                for other in histories:
                    self.looked_at(width, one, other)

    def test_large_histories(self):
        histories = bound_samples.FORTY + samples.LARGE[:4] + ((), (0,))
        for width in (1, 2, 40):
            for one in histories:
                for other in histories:
                    parting = self.answer(parting_of, width, one, other)
                    weights = [plain_levels.forest(history, width) for history in (one, other)]
                    self.same(parting is None, weights[0] == weights[1])
                    if parting is not None:
                        self.same(lets_parting(width, one, other, parting), weights[0] < weights[1])

    def test_none(self):
        self.gives(None, parting_of, 2, STAR, (0, 1))
        self.gives(None, parting_of, 1, (), ())
        self.same(parting_of(3, STAR, (0, 1)) is None, False)

    def test_refusals(self):
        wrongs = {
            "width": bound_samples.NO_NATURALS, "one": samples.NO_HISTORIES, "other": samples.NO_HISTORIES,
        }
        self.refuses_each(parting_of, (2, STAR, LINE3), wrongs)
        self.refuses_each(lets_parting, (2, STAR, LINE3, (3, 2)), wrongs)
        for thing in (None, (), (0, 0)):
            self.refuses("width", lets_parting, 0, STAR, LINE3, thing)
            self.refuses("one", lets_parting, 2, (1,), LINE3, thing)
            self.refuses("other", lets_parting, 2, STAR, [0], thing)


class Checking(Case):
    def want(self, width, one, other, many, reach):
        """Whether the histories can be kept, by building both and walking through them."""
        built = [plain.hung(plain_levels.line(many), many, history) for history in (one, other)]
        return [plain_levels.is_kept(history, width, reach) for history in built]

    def looked_at(self, width, one, other, many, reach):
        kept = self.want(width, one, other, many, reach)
        if kept[0] == kept[1]:
            self.fails("InvalidPaper", ("parts", -1), lets_parting, width, one, other, (many, reach))
            return None
        self.gives(kept[0], lets_parting, width, one, other, (many, reach))
        return kept[0]

    def test_by_hand(self):
        # Within 2 they weigh 2 and 3; the capacity of (2, 2) is 6.
        for many, want in ((1, None), (2, None), (3, True), (4, None), (5, None), (6, None)):
            self.same(self.looked_at(2, STAR, LINE3, many, 2), want)
        self.same(self.looked_at(2, LINE3, STAR, 3, 2), False)
        self.fails("InvalidPaper", ("parts", -1), lets_parting, 2, STAR, LINE3, (1, 2))
        self.fails("InvalidPaper", ("parts", -1), lets_parting, 2, STAR, (0, 1), (3, 2))

    def test_against_building_both(self):
        found = set()
        for width in (1, 2, 3):
            for one in samples.SMALL[::4]:
                for other in samples.SMALL[1::5] + (samples.FORK,):
                    for many in (1, 2, 3, 5, 9):
                        for reach in (1, 2, 3, 6):
                            found.add(self.looked_at(width, one, other, many, reach))
        self.assertEqual(found, {None, True, False})

    def test_shapes(self):
        for thing in samples.ANY + ((3,), (3, 2, 1), [3, 2], "32", {3: 2}):
            if type(thing) is tuple and len(thing) == 2:
                continue
            self.fails("InvalidPaper", ("shape", -1), lets_parting, 2, STAR, LINE3, thing)

    def test_many(self):
        for many in bound_samples.NO_NATURALS + (GREAT + 1, 10 ** 60 - 1, -GREAT):
            for reach in (2, 0, None, True):
                self.fails("InvalidPaper", ("many", 0), lets_parting, 2, STAR, LINE3, (many, reach))

    def test_reach(self):
        for reach in bound_samples.NO_NATURALS + (100, 101, 999, GREAT):
            for many in (1, 3, GREAT):
                self.fails("InvalidPaper", ("reach", 1), lets_parting, 2, STAR, LINE3, (many, reach))

    def test_true_is_not_1(self):
        self.gives(True, lets_parting, 1, (), (0,), (1, 1))
        self.fails("InvalidPaper", ("many", 0), lets_parting, 1, (), (0,), (True, 1))
        self.fails("InvalidPaper", ("reach", 1), lets_parting, 1, (), (0,), (1, True))
        self.fails("InvalidPaper", ("many", 0), lets_parting, 1, (), (0,), (True, True))

    def test_thirty_figures(self):
        self.fails("InvalidPaper", ("parts", -1), lets_parting, 2, STAR, LINE3, (GREAT, 99))
        for width in (20, 30, 40):
            most = plain_bounds.capacity(width, 99)
            weights = [plain_levels.forest(history, width) for history in (STAR, (0,) * 20)]
            self.same(weights, [3, 20])
            for many, want in (
                (most - 21, None), (most - 20, True), (most - 4, True), (most - 3, None), (most - 1, None), (most, None),
            ):
                if want is not None and many <= GREAT:
                    self.gives(want, lets_parting, width, STAR, (0,) * 20, (many, 99))
                    self.gives(not want, lets_parting, width, (0,) * 20, STAR, (many, 99))
                else:
                    fault = ("parts", -1) if many <= GREAT else ("many", 0)
                    self.fails("InvalidPaper", fault, lets_parting, width, STAR, (0,) * 20, (many, 99))
