"""Books from which versions are left out, and versions with which bounds can be kept."""
from sincemarks.states import states_of
from sincemarks.thinning import fitting, thinned
from sincemarks.walks import can_keep
from sincemarks.walls import walled
from tests import bound_samples, plain, plain_bounds, samples, sheet_samples
from tests.cases import Case
from tests.samples import LINE

SUM, TEXT = ("sum",), ("text",)


def thinned_plainly(kind, history, changes, bounds, versions):
    parents = plain.left_on(history, versions)
    put = tuple(plain.way(kind, history, changes, plain.left_parent(history, versions, v), v) for v in versions)
    return parents, put, (bounds[0], tuple(bounds[1][v - 1] for v in versions))


def fitting_plainly(history, bounds):
    taken = ()
    for version in range(1, len(history) + 1):
        if not plain_bounds.is_walled(history, bounds, taken + (version,)):
            taken += (version,)
    return taken


def small():
    """Small histories with bounds of all sorts."""
    for history in samples.SMALL:
        for bounds in list(bound_samples.some_bounds(history, 1))[::2]:
            yield history, bounds


def large():
    for history in samples.LARGE:
        history = plain.left_on(history, tuple(range(1, min(len(history), 24) + 1)))
        for bounds in list(bound_samples.some_bounds(history, 2))[::2]:
            yield history, bounds


class Thinning(Case):
    def test_by_hand(self):
        level = (2, ((2, 2),) * 5)
        self.gives(((0, 1), (3, 28), (2, ((2, 2), (2, 2)))), thinned, SUM, LINE, (1, 2, 4, 8, 16), level, (2, 5))
        bounds = (3, ((1, 1), (2, 3), (4, 2)))
        self.gives(((0, 0), ("ab", "c"), (3, ((2, 3), (4, 2)))), thinned, TEXT, (0, 1, 0), ("a", "b", "c"), bounds, (2, 3))
        self.gives(((), (), (3, ())), thinned, TEXT, (0, 1, 0), ("a", "b", "c"), bounds, ())

    def test_each_set_of_small_histories(self):
        for history, bounds in small():
            changes = ("ab", "c", "d", "ef")[:len(history)]
            for versions in samples.subsets(history)[::2]:
                want = thinned_plainly(TEXT, history, changes, bounds, versions)
                self.gives(want, thinned, TEXT, history, changes, bounds, versions)

    def test_any(self):
        for kind in samples.NINE:
            for history, bounds in list(large())[::5]:
                changes = samples.some_changes(kind, len(history), samples.chance("thinned", kind))
                for versions in samples.subsets(history, 3):
                    want = thinned_plainly(kind, history, changes, bounds, versions)
                    self.gives(want, thinned, kind, history, changes, bounds, versions)
                    # The versions that stay keep their states.
                    states = states_of(kind, history, changes)
                    self.same(states_of(kind, *want[:2]), tuple(states[version] for version in (0, *versions)))

    def test_kept_exactly_if_no_wall(self):
        found = []
        for history, bounds in small():
            for versions in samples.subsets(history)[::3]:
                left, _, pairs = thinned(SUM, history, (1,) * len(history), bounds, versions)
                found.append(walled(history, bounds, versions))
                self.same(can_keep(left, pairs), not found[-1])
        self.assertGreater(found.count(True), 50)

    def test_refusals(self):
        history = (0, 1, 1)
        for kind in samples.NINE:
            changes = samples.some_changes(kind, 3, samples.chance("refused", kind))
            bad = sheet_samples.wrongs(kind, history)
            self.refuses_each(thinned, (kind, history, changes, (3, ((2, 3),) * 3), (1, 3)), {
                "kind": bad["kind"], "changes": bad["changes"], "bounds": bound_samples.bad_bounds(history, 4),
                "versions": bad["versions"],
            })


class Fitting(Case):
    def test_by_hand(self):
        self.gives((1, 2), fitting, (0, 1, 2, 1), (1, ((2, 1), (1, 1), (1, 1), (1, 1))))
        self.gives((), fitting, (), (3, ()))
        self.gives((1, 2, 3, 4, 5), fitting, LINE, (2, ((2, 2),) * 5))
        self.gives((1, 2), fitting, LINE, (2, ((1, 2),) * 5))

    def test_any(self):
        for history, bounds in [*small(), *large()]:
            want = fitting_plainly(history, bounds)
            self.gives(want, fitting, history, bounds)
            self.assertFalse(plain_bounds.is_walled(history, bounds, want))
            for version in set(range(1, len(history) + 1)) - set(want):
                self.assertTrue(plain_bounds.is_walled(history, bounds, tuple(sorted((*want, version)))))

    def test_at_a_level_all_whose_numbers_are_less_than_the_capacity(self):
        for history in samples.SMALL + samples.LARGE[:3]:
            for width, reach in ((1, 1), (1, 2), (2, 1), (2, 2)):
                found = self.answer(fitting, history, plain_bounds.level(history, width, reach))
                few = range(1, min(len(history), plain_bounds.capacity(width, reach) - 1) + 1)
                self.assertTrue(set(few) <= set(found), (history, width, reach))

    def test_refusals(self):
        for bad in (None, True, (), (0, ()), (1000, ()), (3, []), (3, ((1, 1),)), [3, ()], (3, (), ())):
            self.refuses("bounds", fitting, (), bad)
            self.refuses("bounds", thinned, SUM, (), (), bad, None)
        for history in ((0, 1, 1), (0,)):
            self.refuses_each(fitting, (history, (3, ((2, 3),) * len(history))), {"bounds": bound_samples.bad_bounds(history)})
