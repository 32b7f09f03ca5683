"""[35] Bounds, their checker, and how they are made."""
from sincemarks.boundchecker import lets_bounds
from sincemarks.boundkinds import is_bounds
from sincemarks.boundmaking import floors_of, level_bounds, one_bound, raised_bounds
from tests import bound_samples, plain_bounds, samples
from tests.cases import Case
from tests.samples import GREAT

HISTORIES = ((0,), (0, 1), samples.WIDE, samples.FORK)
SHORT, TIGHT = (0, 1), (2, ((1, 2), (1, 1)))


class Kinds(Case):
    def looked_at(self, history, thing):
        fault = plain_bounds.bounds_fault(history, thing)
        self.gives(fault is None, is_bounds, history, thing)
        if fault is None:
            self.gives(thing[0], lets_bounds, history, thing)
        else:
            self.fails("InvalidPaper", fault, lets_bounds, history, thing)
        return fault

    def test_bounds(self):
        for history in samples.HISTORIES:
            for bounds in bound_samples.some_bounds(history, 1):
                self.assertIsNone(self.looked_at(history, bounds))
        for roof in (1, 2, 999):
            self.gives(roof, lets_bounds, (), (roof, ()))
            self.gives(roof, lets_bounds, (0,), (roof, ((999, roof),)))
            self.gives(roof, lets_bounds, (0,), (roof, ((1, 1),)))

    def test_no_bounds(self):
        for history in HISTORIES:
            for thing, word, at in bound_samples.no_bounds(history):
                self.same(self.looked_at(history, thing), (word, at), thing)

    def test_no_changes(self):
        for thing, fault in (
            ((0, ()), ("roof", 0)), ((1000, ()), ("roof", 0)), ((True, ()), ("roof", 0)), ((1, ((1, 1),)), ("many", 1)),
            ((1, []), ("many", 1)), ((1, None), ("many", 1)), ((), ("shape", -1)), ((1,), ("shape", -1)),
            ((1, (), ()), ("shape", -1)), ([1, ()], ("shape", -1)),
        ):
            self.same(self.looked_at((), thing), fault)

    def test_two_faults(self):
        for thing, fault in (
            ((0, None), ("roof", 0)), ((0, ((0, 0), (0, 0))), ("roof", 0)), ((2, ((0, 3),)), ("many", 1)),
            ((2, (None, None)), ("pair", 0)), ((2, ((0, 3), None)), ("width", 0)), ((2, ((1, 3), None)), ("reach", 0)),
            ((2, ((1, 3), (0, 1))), ("reach", 0)), ((2, ((1, 2), (0, 3))), ("width", 1)),
            ((2, ((1, 2), (1, 3))), ("reach", 1)), ((2, ((1, 2), (1, 2, 1))), ("pair", 1)), ((2, ((1, 2), [1, 2])), ("pair", 1)),
        ):
            self.same(self.looked_at(SHORT, thing), fault)

    def test_values_of_any_sort(self):
        for history in ((), (0,), SHORT, (0, 0)):
            for thing in samples.ANY:
                self.looked_at(history, thing)
                self.looked_at(history, (5, thing))
                self.looked_at(history, (5, (thing,) * len(history)))
                self.looked_at(history, (5, ((5, thing),) * len(history)))
                self.looked_at(history, (5, ((thing, 5),) * len(history)))
                self.looked_at(history, (thing, ((1, 1),) * len(history)))

    def test_of_another_history(self):
        for history in samples.SMALL:
            for other in ((), (0,), SHORT, (0, 0, 0)):
                bounds = plain_bounds.level(other, 2, 2)
                self.gives(len(history) == len(other), is_bounds, history, bounds)


class Making(Case):
    def test_by_hand(self):
        self.gives((2, ((2, 2),) * 5), level_bounds, samples.LINE, 2, 2)
        self.gives((999, ((1, 999), (1, 999))), level_bounds, SHORT, 1, 999)
        self.gives((1, ((999, 1), (999, 1))), level_bounds, SHORT, 999, 1)
        self.gives((7, ()), level_bounds, (), 3, 7)
        self.gives((1, 2), floors_of, SHORT, TIGHT)
        self.gives((), floors_of, (), (5, ()))
        self.gives((999, 1), floors_of, SHORT, (999, ((1, 1), (1, 999))))
        self.gives((3, ((1, 3), (1, 2))), raised_bounds, SHORT, TIGHT, 1)
        self.gives((2, ((1, 2), (5, 2))), one_bound, SHORT, TIGHT, 2, 5, 2)
        self.gives((2, ((999, 1), (1, 1))), one_bound, SHORT, TIGHT, 1, 999, 1)

    def test_level(self):
        for history in samples.HISTORIES:
            for width, reach in ((1, 1), (2, 5), (999, 999), (40, 99)):
                bounds = self.answer(level_bounds, history, width, reach)
                self.same(bounds, plain_bounds.level(history, width, reach))
                self.same(is_bounds(history, bounds), True)

    def test_floors(self):
        for history in samples.HISTORIES:
            for bounds in bound_samples.some_bounds(history, 1):
                want = tuple(bounds[0] + 1 - reach for _, reach in bounds[1])
                self.gives(want, floors_of, history, bounds)

    def test_raised(self):
        for history in samples.SMALL[::3] + samples.LARGE[:4]:
            for bounds in bound_samples.some_bounds(history, 1):
                reaches = [bounds[0], *[reach for _, reach in bounds[1]]]
                down, up = 1 - min(reaches), 999 - max(reaches)
                for many in {0, 1, -1, 2, down, down + 1, up, up - 1, down - 1, up + 1, down - 2, up + 2}:
                    if down <= many <= up:
                        raised = self.answer(raised_bounds, history, bounds, many)
                        self.same(raised, plain_bounds.raised(bounds, many))
                        self.same(is_bounds(history, raised), True)
                        # Raised bounds have the floors of the former ones.
                        self.same(floors_of(history, raised), floors_of(history, bounds))
                        self.gives(bounds, raised_bounds, history, raised, -many)
                    else:
                        self.refuses("many", raised_bounds, history, bounds, many)

    def test_raised_without_changes(self):
        self.gives((1, ()), raised_bounds, (), (5, ()), -4)
        self.gives((999, ()), raised_bounds, (), (5, ()), 994)
        self.refuses("many", raised_bounds, (), (5, ()), -5)
        self.refuses("many", raised_bounds, (), (5, ()), 995)

    def test_the_least_reach_and_the_roof_count(self):
        bounds = (10, ((1, 10), (1, 3)))
        self.gives((8, ((1, 8), (1, 1))), raised_bounds, SHORT, bounds, -2)
        self.refuses("many", raised_bounds, SHORT, bounds, -3)
        self.gives((999, ((1, 2), (1, 991))), raised_bounds, SHORT, (998, ((1, 1), (1, 990))), 1)
        self.refuses("many", raised_bounds, SHORT, (998, ((1, 1), (1, 990))), 2)
        self.refuses("many", raised_bounds, SHORT, bounds, GREAT)
        self.refuses("many", raised_bounds, SHORT, bounds, -GREAT)

    def test_one_bound(self):
        for history in samples.SMALL[1::3] + samples.LARGE[:4]:
            for bounds in bound_samples.some_bounds(history, 1):
                for version in {1, len(history), (len(history) + 1) // 2}:
                    for width, reach in ((1, 1), (999, bounds[0]), (2, 1)):
                        changed = self.answer(one_bound, history, bounds, version, width, reach)
                        self.same(changed, plain_bounds.one_bound(bounds, version, width, reach))
                        self.same(is_bounds(history, changed), True)
                    self.refuses("reach", one_bound, history, bounds, version, 1, bounds[0] + 1)


class Refusals(Case):
    def test_level(self):
        wrongs = {"width": bound_samples.NO_UP_TO_999, "reach": bound_samples.NO_UP_TO_999}
        for history in ((), SHORT):
            self.refuses_each(level_bounds, (history, 2, 3), wrongs)

    def test_others(self):
        for history in HISTORIES:
            bounds = (3, ((2, 3),) * len(history))
            bad = bound_samples.bad_bounds(history, 5)
            self.refuses_each(floors_of, (history, bounds), {"bounds": bound_samples.bad_bounds(history)})
            no_integers = (True, False, None, "0", "", (), (1,), [1], -3, 997, GREAT, -GREAT)
            self.refuses_each(raised_bounds, (history, bounds, 1), {"bounds": bad, "many": no_integers})
            self.refuses_each(one_bound, (history, bounds, 1, 4, 3), {
                "bounds": bad, "version": bound_samples.bad_versions(history), "width": bound_samples.NO_UP_TO_999,
                "reach": bound_samples.NO_UP_TO_999 + (4, 999),
            })
