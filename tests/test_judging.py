"""What any value is to bounds."""
from sincemarks.judging import judged, settled
from tests import bound_samples, plain, plain_bounds, plain_sheets, plain_stores, samples, store_samples
from tests.cases import Case
from tests.samples import LINE

LEVEL = (2, ((2, 2),) * 5)
TWOS, FREE = (0, 1, 0, 3, 3), (0,) * 5


def judged_plainly(history, bounds, thing):
    if plain_stores.is_plan(history, thing):
        if plain_bounds.first_broken(history, bounds, plain_stores.based(history, thing)) is None:
            return "plan"
    if plain.is_set(thing) and set(thing) <= set(range(1, len(history) + 1)):
        if plain_bounds.is_walled(history, bounds, thing):
            return "wall"
    if plain_stores.store_fault(history, thing) is None and plain_stores.fault(history, thing) is None:
        if plain_bounds.first_broken(history, bounds, thing) is None:
            return "store"
    return "none"


class Judging(Case):
    def looked_at(self, history, bounds, thing):
        want = judged_plainly(history, bounds, thing)
        self.gives(want, judged, history, bounds, thing)
        return want

    def test_by_hand(self):
        self.gives("plan", judged, LINE, LEVEL, TWOS)
        self.gives("none", judged, LINE, LEVEL, FREE)
        self.gives("store", judged, LINE, LEVEL, plain_stores.based(LINE, TWOS))
        self.gives("none", judged, LINE, LEVEL, plain_stores.based(LINE, FREE))
        tight = (1, ((1, 1), (1, 1)))
        self.gives("wall", judged, (0, 1), tight, (1, 2))
        self.gives("none", judged, (0, 1), tight, (1,))
        self.gives("none", judged, (0, 1), tight, (0, 1))
        self.gives("none", judged, (0, 1), tight, (2, 1))
        # Of no changes () is the plan; it is no wall anywhere.
        self.gives("plan", judged, (), (3, ()), ())
        self.gives("none", judged, (0,), (1, ((1, 1),)), ())
        self.gives("plan", judged, (0,), (1, ((1, 1),)), (0,))
        self.gives("store", judged, (), (3, ()), ((), ((),)))
        # A store that is not right keeps nothing.
        self.gives("none", judged, (0,), (9, ((9, 9),)), ((), ((), ())))
        self.gives("store", judged, (0,), (9, ((9, 9),)), (((1,),), ((), (0,))))

    def test_small(self):
        found = []
        for history in samples.SMALL:
            for bounds in list(bound_samples.some_bounds(history, 1))[::2]:
                for bases in plain_stores.all_bases(history):
                    found.append(self.looked_at(history, bounds, bases))
                for versions in samples.subsets(history):
                    found.append(self.looked_at(history, bounds, versions))
        for word in ("plan", "wall", "none"):
            self.assertGreater(found.count(word), 50, word)

    def test_stores(self):
        found = []
        for history in samples.SMALL[::2] + samples.LARGE[:3]:
            for bounds in list(bound_samples.some_bounds(history, 1))[1::3]:
                for store in list(store_samples.right_stores(history, 2))[::2]:
                    found.append(self.looked_at(history, bounds, store))
                for store in list(store_samples.faulty_stores(history, 1))[:3]:
                    self.same(self.looked_at(history, bounds, store), "none")
        for word in ("store", "none"):
            self.assertGreater(found.count(word), 50, word)

    def test_any_value(self):
        for history in ((), (0,), (0, 1), (0, 1, 1)):
            for bounds in (plain_bounds.level(history, 1, 1), plain_bounds.level(history, 5, 5)):
                for thing in samples.ANY + store_samples.no_stores((0, 1)) + ((0, False), (0, True), (True,), (1, True), (True, 2)):
                    self.looked_at(history, bounds, thing)

    def test_large(self):
        for history in samples.LARGE:
            for bounds in list(bound_samples.some_bounds(history, 1))[::4]:
                wall = plain_bounds.wall_in(history, bounds)
                if wall is not None:
                    self.gives("wall", judged, history, bounds, wall)
                    self.gives("wall", judged, history, bounds, tuple(range(1, len(history) + 1)))
                    self.gives("none", judged, history, bounds, wall[1:])
                self.looked_at(history, bounds, (0,) * len(history))
                self.looked_at(history, bounds, history)

    def test_settled(self):
        self.gives(("plan", TWOS), settled, LINE, LEVEL)
        self.gives(("wall", (1, 2)), settled, (0, 1), (1, ((1, 1), (1, 1))))
        self.gives(("plan", ()), settled, (), (1, ()))
        for history in samples.SMALL[::2] + samples.LARGE:
            for bounds in list(bound_samples.some_bounds(history, 1))[::2]:
                wall = plain_bounds.wall_in(history, bounds)
                if wall is not None:
                    self.gives(("wall", wall), settled, history, bounds)
                else:
                    heights = tuple(row[-1] for row in plain_bounds.rows_of(history, bounds))
                    bases = plain_stores.bases_by(history, heights)
                    self.gives(("plan", bases), settled, history, bounds)
                    self.gives("plan", judged, history, bounds, bases)

    def test_refusals(self):
        for history in ((0, 1, 1), (0,)):
            good = (3, ((2, 3),) * len(history))
            self.refuses_each(judged, (history, good, history), {"bounds": bound_samples.bad_bounds(history)})
            self.refuses_each(settled, (history, good), {"bounds": bound_samples.bad_bounds(history)})
            for thing in (None, (), history, (1,), 0, "plan", ((), ())):
                for bad in bound_samples.bad_bounds(history, 5):
                    self.refuses("bounds", judged, history, bad, thing)
        for bad in (None, True, (), (0, ()), (1000, ()), (3, []), (3, ((1, 1),)), [3, ()], (3, (), ())):
            self.refuses("bounds", settled, (), bad)
            for thing in (None, (), ((), ((),))):
                self.refuses("bounds", judged, (), bad, thing)
        self.assertIn((0, 1, 1), plain_sheets.all_plans((0, 1, 1)))
