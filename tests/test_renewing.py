"""Rows renewed from one version upwards."""
from sincemarks.renewing import fresh_rows, renewed
from tests import bound_samples, plain, plain_bounds, samples
from tests.cases import Case

THREE = (2, ((2, 2), (2, 2), (2, 2)))


def renewed_plainly(history, bounds, rows, version):
    now, up = dict(enumerate(rows, start=1)), []
    while version:
        width, reach = bounds[1][version - 1]
        below = plain_bounds.merged([now[child] for child in plain.children(history, version)])
        row = plain_bounds.stepped(width, bounds[0] + 1 - reach, below)
        up.append(version)
        if row == now[version]:
            break
        now[version] = row
        version = plain.parents(history)[version]
    return tuple(now[v] for v in range(1, len(history) + 1)), tuple(up)


def told(step=1):
    for history in samples.SMALL[::2 * step] + samples.LARGE[::step]:
        for bounds in list(bound_samples.some_bounds(history, 1))[::3]:
            yield history, bounds


class Renewing(Case):
    def test_by_hand(self):
        self.gives((((2,), (1,), (1,)), (2, 1)), renewed, (0, 1, 1), THREE, ((1, 1), (), (1,)), 2)
        self.gives((((1, 1), (1,), (1,)), (3,)), renewed, (0, 1, 1), THREE, ((1, 1), (1,), (1,)), 3)
        self.gives((((1, 1), (), (1,)), ()), renewed, (0, 1, 1), THREE, ((1, 1), (), (1,)), 0)
        self.gives(((), ()), renewed, (), (3, ()), (), 0)
        self.gives((((2,), (1,), (1,)), (1,)), renewed, (0, 1, 1), THREE, ((9, 9, 9), (1,), (1,)), 1)

    def test_fresh_rows(self):
        for history, bounds in told():
            self.gives(plain_bounds.rows_of(history, bounds), fresh_rows, history, bounds)

    def test_one_row_not_right(self):
        ends = []
        for history, bounds in told():
            fresh = plain_bounds.rows_of(history, bounds)
            source = samples.chance("renewed", history, bounds)
            for version in source.sample(range(1, len(history) + 1), min(4, len(history))):
                # The rows above it are those that its own one led to.
                other = bound_samples.some_row(source, 4, 4)
                rows = dict(enumerate(fresh, start=1)) | {version: other}
                above = plain.parents(history)[version]
                while above:
                    below = plain_bounds.merged([rows[child] for child in plain.children(history, above)])
                    width, reach = bounds[1][above - 1]
                    rows[above] = plain_bounds.stepped(width, bounds[0] + 1 - reach, below)
                    above = plain.parents(history)[above]
                rows = tuple(rows[v] for v in range(1, len(history) + 1))
                want = renewed_plainly(history, bounds, rows, version)
                self.same(want[0], fresh)
                self.gives(want, renewed, history, bounds, rows, version)
                ends.append(plain.parents(history)[want[1][-1]] == 0)
        self.assertGreater(ends.count(True), 20)
        self.assertGreater(ends.count(False), 20)

    def test_any_rows(self):
        for history, bounds in told():
            source = samples.chance("any rows", history, bounds)
            fresh = plain_bounds.rows_of(history, bounds)
            for many in (1, 3):
                rows = tuple(
                    row if source.random() < 0.6 else bound_samples.some_row(source, many, many) for row in fresh
                )
                for version in {0, len(history), source.randint(0, len(history))}:
                    self.gives(renewed_plainly(history, bounds, rows, version), renewed, history, bounds, rows, version)

    def test_great_members(self):
        great = (samples.GREAT, samples.GREAT)
        self.gives((((1, 1), great), ()), renewed, (0, 0), (1, ((1, 1), (1, 1))), ((1, 1), great), 0)
        rows, up = self.answer(renewed, (0, 1), (1, ((5, 1), (5, 1))), (great, great), 1)
        self.same((rows, up), (((samples.GREAT, samples.GREAT, 1), great), (1,)))

    def test_refusals(self):
        history, bounds = (0, 1, 1), THREE
        rows = plain_bounds.rows_of(history, bounds)
        bad = [None, True, 0, "", list(rows), rows[1:], rows + ((1,),), (rows,), (), ((),) * 4]
        bad += [rows[:k] + (row,) + rows[k + 1:] for k in range(3) for row in bound_samples.NO_ROWS]
        self.refuses_each(renewed, (history, bounds, rows, 1), {
            "bounds": bound_samples.bad_bounds(history, 3), "rows": bad, "version": samples.no_versions(history),
        })
        self.refuses_each(fresh_rows, (history, bounds), {"bounds": bound_samples.bad_bounds(history)})
