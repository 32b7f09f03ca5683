"""[38] Margins, and what one version has to be lifted to."""
from sincemarks.boundmaking import one_bound, raised_bounds
from sincemarks.margins import lifted_reach, lifted_width, margin_of
from sincemarks.walks import can_keep
from tests import bound_samples, plain_bounds, samples
from tests.cases import Case

SHORT, TIGHT = (0, 1), (2, ((1, 2), (1, 1)))


def margins(history):
    """Bounds of small roof and some wide ones."""
    return list(bound_samples.some_bounds(history, 1))[:3] + [
        bounds for bounds in bound_samples.some_bounds(history, 3) if bounds[0] <= 9
    ]


class Margins(Case):
    def test_by_hand(self):
        self.gives(1, margin_of, SHORT, TIGHT)
        self.gives(0, margin_of, samples.LINE, plain_bounds.level(samples.LINE, 2, 2))
        self.gives(-997, margin_of, samples.LINE, plain_bounds.level(samples.LINE, 2, 999))
        self.gives(4, margin_of, samples.LINE, plain_bounds.level(samples.LINE, 1, 1))
        self.gives(0, margin_of, samples.WIDE, plain_bounds.level(samples.WIDE, 4, 1))

    def test_no_changes(self):
        for roof in (1, 5, 999):
            self.gives(0, margin_of, (), (roof, ()))

    def test_plain_margins(self):
        found = set()
        for history in samples.SMALL[1:] + samples.LARGE:
            for bounds in bound_samples.some_bounds(history, 1):
                margin = plain_bounds.top(history, bounds) - bounds[0]
                self.gives(margin, margin_of, history, bounds)
                found.add((margin > 0) - (margin < 0))
        self.assertEqual(found, {-1, 0, 1})

    def test_raised_by_the_margin(self):
        for history in samples.SMALL[1:] + samples.LARGE[:6]:
            for bounds in margins(history):
                margin = margin_of(history, bounds)
                least = min(reach for _, reach in bounds[1])
                if bounds[0] + margin <= 999:
                    raised = raised_bounds(history, bounds, margin)
                    self.same(can_keep(history, raised), True)
                    self.gives(0, margin_of, history, raised)
                if least + margin > 1:
                    self.same(can_keep(history, raised_bounds(history, bounds, margin - 1)), False)

    def test_refusals(self):
        for history in (SHORT, samples.WIDE):
            bounds = plain_bounds.level(history, 2, 2)
            self.refuses_each(margin_of, (history, bounds), {"bounds": bound_samples.bad_bounds(history)})
            wrongs = {
                "bounds": bound_samples.bad_bounds(history, 4), "version": bound_samples.bad_versions(history),
            }
            self.refuses_each(lifted_reach, (history, bounds, 1), wrongs)
            self.refuses_each(lifted_width, (history, bounds, 1), wrongs)


class Lifting(Case):
    def first_that_serves(self, history, tried):
        """The first of the values with which the bounds can be kept, tried one by one."""
        for value, bounds in tried:
            if plain_bounds.top(history, bounds) <= bounds[0]:
                return value
        return None

    def looked_at(self, history, bounds, version):
        width, reach = bounds[1][version - 1]
        want = self.first_that_serves(
            history, [(k, plain_bounds.one_bound(bounds, version, width, k)) for k in range(reach, bounds[0] + 1)]
        )
        self.gives(want, lifted_reach, history, bounds, version)
        # No more than as many sheets as there are versions hold a change.
        widths = [*range(width, min(999, width + len(history)) + 1), 999]
        lifted = self.first_that_serves(
            history, [(k, plain_bounds.one_bound(bounds, version, k, reach)) for k in widths]
        )
        self.gives(lifted, lifted_width, history, bounds, version)
        return want, lifted

    def test_by_hand(self):
        self.gives(None, lifted_reach, SHORT, TIGHT, 1)
        self.gives(2, lifted_reach, SHORT, TIGHT, 2)
        self.gives(2, lifted_width, SHORT, TIGHT, 1)
        self.gives(None, lifted_width, SHORT, TIGHT, 2)
        self.gives(None, lifted_reach, samples.LINE, plain_bounds.level(samples.LINE, 1, 2), 1)
        self.gives(5, lifted_width, samples.LINE, (1, ((1, 1), (4, 1), (3, 1), (2, 1), (1, 1))), 1)
        self.gives(1, lifted_reach, samples.LINE, (1, ((5, 1), (4, 1), (3, 1), (2, 1), (1, 1))), 3)
        self.gives(999, lifted_width, (0,), (1, ((999, 1),)), 1)
        self.gives(7, lifted_reach, (0,), (9, ((1, 7),)), 1)

    def test_small_bounds(self):
        found = set()
        told = [(history, bounds) for history in samples.SMALL[1:] for bounds in margins(history)[:6]]
        for history, bounds in told + [(SHORT, TIGHT)]:
            for version in range(1, len(history) + 1):
                pair = self.looked_at(history, bounds, version)
                found.add(tuple(worth is None for worth in pair))
        self.assertEqual(found, {(a, b) for a in (True, False) for b in (True, False)})

    def test_large_histories(self):
        for history in samples.LARGE[:3] + bound_samples.FORTY:
            for bounds in margins(history)[:8:2]:
                for version in {1, len(history) // 2, len(history)}:
                    self.looked_at(history, bounds, version)

    def test_bounds_that_are_lifted_far(self):
        line = tuple(range(40))
        # Forty versions, each written by all below it: only the widths stand in the way.
        for version in (1, 2, 20, 39):
            pairs = tuple((41 - v if v != version else 1, 1) for v in range(1, 41))
            self.same(self.looked_at(line, (1, pairs), version), (None, 41 - version))
        for roof in (39, 40, 41, 999):
            bounds = (roof, tuple((1, roof if v < 40 else 1) for v in range(1, 41)))
            self.same(self.looked_at(line, bounds, 40), (None if roof < 40 else 40, None))

    def test_what_can_be_kept_is_not_lifted(self):
        for history in samples.SMALL[1::2] + samples.LARGE[:4]:
            for bounds in bound_samples.some_bounds(history, 1):
                if can_keep(history, bounds):
                    for version in range(1, len(history) + 1):
                        width, reach = bounds[1][version - 1]
                        self.same(lifted_reach(history, bounds, version), reach)
                        self.same(lifted_width(history, bounds, version), width)

    def test_lifted_bounds_can_be_kept(self):
        for history in samples.SMALL[1::2] + samples.LARGE[:4]:
            for bounds in margins(history)[:5]:
                version = (len(history) + 1) // 2
                width, reach = bounds[1][version - 1]
                lifted = lifted_reach(history, bounds, version)
                if lifted is not None:
                    self.same(can_keep(history, one_bound(history, bounds, version, width, lifted)), True)
                lifted = lifted_width(history, bounds, version)
                if lifted is not None:
                    self.same(can_keep(history, one_bound(history, bounds, version, lifted, reach)), True)
