"""[36] Whether stores keep bounds."""
from sincemarks.boundmaking import one_bound, raised_bounds
from sincemarks.chains import store_by
from sincemarks.keeping import broken_at, keeps
from tests import bound_samples, plain_bounds, plain_stores, samples, store_samples
from tests.cases import Case

W = (((1,), (2,), (1, 2), (2,)), ((), (0,), (0, 1, 2)))
SHORT = (0, 1)
TWOS = (0, 1, 0, 3, 3)


def stores_with_bounds():
    """Right stores with bounds that they keep, or just break, and with any bounds."""
    for history in samples.SMALL[1::3] + samples.LARGE[:3] + samples.LARGE[12:14]:
        for store in list(store_samples.right_stores(history, 2)):
            writes, reads = plain_stores.writes(history, store), plain_stores.reads(store)[1:]
            roof = max(1, *reads)
            tight = roof, tuple((max(1, many), max(1, read)) for many, read in zip(writes, reads))
            yield history, tight, store
            source = samples.chance("keeping", history, store)
            for _ in range(3):
                version = source.randint(1, len(history))
                width, reach = tight[1][version - 1]
                yield history, plain_bounds.one_bound(tight, version, max(1, width - 1), reach), store
                yield history, plain_bounds.one_bound(tight, version, width, max(1, reach - 1)), store
                yield history, plain_bounds.one_bound(tight, version, max(1, width - 1), max(1, reach - 1)), store
            for bounds in list(bound_samples.some_bounds(history, 1))[::4]:
                yield history, bounds, store


class Keeping(Case):
    def looked_at(self, history, bounds, store):
        broken = plain_bounds.first_broken(history, bounds, store)
        self.gives(broken is None, keeps, history, bounds, store)
        self.gives(broken, broken_at, history, bounds, store)
        return broken

    def test_by_hand(self):
        # The writes are 2 and 3, the reads of 1 and 2 are 1 and 3.
        for bounds, broken in (
            ((3, ((2, 1), (3, 3))), None), ((3, ((1, 1), (3, 3))), ("writes", 1)), ((3, ((2, 1), (2, 3))), ("writes", 2)),
            ((3, ((2, 1), (3, 2))), ("reads", 2)), ((3, ((1, 1), (2, 2))), ("writes", 1)),
            ((3, ((2, 1), (1, 1))), ("writes", 2)), ((999, ((999, 999), (999, 999))), None),
        ):
            self.same(self.looked_at(SHORT, bounds, W), broken)
        level = plain_bounds.level(samples.LINE, 2, 2)
        self.same(self.looked_at(samples.LINE, level, store_by(samples.LINE, TWOS)), None)
        self.same(self.looked_at(samples.LINE, level, store_by(samples.LINE, (0,) * 5)), ("writes", 1))
        self.same(self.looked_at(samples.LINE, level, store_by(samples.LINE, samples.LINE)), ("reads", 3))

    def test_writes_come_first(self):
        # Version 1 reads too much, but the least change with too many writes is told.
        store = (((1,), (1,), (1, 2)), ((), (0, 1), (2,)))
        self.same(self.looked_at(SHORT, (1, ((2, 1), (1, 1))), store), ("writes", 1))
        self.same(self.looked_at(SHORT, (1, ((3, 1), (1, 1))), store), ("reads", 1))
        store = (((1,), (2,), (2,)), ((), (0,), (0, 1, 2)))
        self.same(self.looked_at(SHORT, (1, ((1, 1), (1, 1))), store), ("writes", 2))
        self.same(self.looked_at(SHORT, (1, ((1, 1), (2, 1))), store), ("reads", 2))

    def test_sheets_that_nobody_reads_count(self):
        store = (((1,), (1,)), ((), (0,)))
        self.same(self.looked_at((0,), (1, ((1, 1),)), store), ("writes", 1))
        self.same(self.looked_at((0,), (1, ((2, 1),)), store), None)

    def test_no_changes(self):
        self.same(self.looked_at((), (1, ()), ((), ((),))), None)

    def test_any_stores(self):
        found = set()
        for history, bounds, store in stores_with_bounds():
            broken = self.looked_at(history, bounds, store)
            found.add(broken and broken[0])
            if broken is None:
                self.still_kept(history, bounds, store)
        self.assertEqual(found, {None, "writes", "reads"})

    def still_kept(self, history, bounds, store):
        """Bounds that are kept are kept raised, and with a greater width or reach."""
        self.same(keeps(history, raised_bounds(history, bounds, min(3, 999 - bounds[0])), store), True)
        width, reach = bounds[1][0]
        self.same(keeps(history, one_bound(history, bounds, 1, min(999, width + 1), reach), store), True)
        self.same(keeps(history, one_bound(history, bounds, 1, width, min(bounds[0], reach + 1)), store), True)

    def test_raised_and_lowered(self):
        for history in samples.SMALL[2::3]:
            for store in list(store_samples.right_stores(history, 1)):
                bounds = plain_bounds.level(history, 9, 9)
                for many in range(-8, 3):
                    self.looked_at(history, raised_bounds(history, bounds, many), store)


class Faults(Case):
    def test_stores_that_are_not_right(self):
        for history in samples.SMALL[1::4] + samples.LARGE[:3]:
            wide = plain_bounds.level(history, 999, 999)
            narrow = plain_bounds.level(history, 1, 1)
            for store in list(store_samples.faulty_stores(history, 1))[:5]:
                for bounds in (wide, narrow):
                    for function in (keeps, broken_at):
                        self.fails("Faulty", plain_stores.fault(history, store), function, history, bounds, store)

    def test_by_hand(self):
        store = (((1, 2),), ((), (0,), (0,)))
        self.fails("Faulty", (1, 2), keeps, SHORT, (2, ((2, 2), (2, 2))), store)
        self.fails("Faulty", (1, 2), broken_at, SHORT, (2, ((2, 2), (2, 2))), store)
        self.fails("Faulty", (1, 1), keeps, (0,), (1, ((1, 1),)), ((), ((), ())))

    def test_refusals(self):
        for history in (SHORT, samples.WIDE):
            store = store_by(history, history)
            wrongs = {"bounds": bound_samples.bad_bounds(history, 3), "store": store_samples.no_stores(history)}
            for function in (keeps, broken_at):
                self.refuses_each(function, (history, (4, ((4, 4),) * len(history)), store), wrongs)

    def test_refusals_come_before_faults(self):
        faulty = (((1, 2),), ((), (0,), (0,)))
        for bad in bound_samples.bad_bounds(SHORT, 7):
            self.refuses("bounds", keeps, SHORT, bad, faulty)
            self.refuses("bounds", broken_at, SHORT, bad, faulty)

    def test_limits(self):
        line = tuple(range(24))
        store = (tuple(tuple(range(1, 25)) for _ in range(80)), ((),) + tuple((0,) for _ in line))
        self.fails("Faulty", (1, 2), keeps, line, plain_bounds.level(line, 999, 999), store)
        sheets = tuple(tuple(range(1, 1 + k % 24 + 1)) for k in range(80))
        store = (sheets, ((),) + tuple((k,) for k in range(24)))
        self.gives(("writes", 1), broken_at, line, plain_bounds.level(line, 79, 1), store)
        self.gives(None, broken_at, line, plain_bounds.level(line, 80, 1), store)
