"""[24] Writes and reads of stores, and lean stores."""
from sincemarks.faults import fault_of, manner_of
from sincemarks.storecounts import lean, reads_of, writes_of
from tests import plain_stores, samples, store_samples
from tests.cases import Case


def told_stores():
    """Histories with stores, right and not."""
    for history in samples.SMALL[::3] + samples.LARGE[:3] + samples.LARGE[12:15]:
        for store in store_samples.right_stores(history, 2):
            yield history, store
        for store in list(store_samples.faulty_stores(history, 1))[:6]:
            yield history, store


class Counts(Case):
    def test_by_hand(self):
        store = (((1,), (2,), (1, 2), (2,)), ((), (0,), (0, 1, 2)))
        self.gives((2, 3), writes_of, (0, 1), store)
        self.gives((0, 1, 3), reads_of, (0, 1), store)
        self.gives((((1,), (2,), (1, 2)), store[1]), lean, (0, 1), store)
        store = (((1, 3), (2,), (2,), (2, 3), (2,)), ((4,), (1, 4), (), (3,)))
        self.gives((1, 4, 2), writes_of, (0, 0, 0), store)
        self.gives((1, 2, 0, 1), reads_of, (0, 0, 0), store)
        self.gives((((2,), (2, 3), (2,)), ((2,), (0, 2), (), (1,))), lean, (0, 0, 0), store)

    def test_writes_that_nobody_reads_count(self):
        self.gives((5, 1), writes_of, (0, 1), (((1,), (1,), (1, 2), (1,), (1,)), ((), (), ())))
        self.gives((0, 0, 0), writes_of, (0, 1, 2), ((), ((),) * 4))
        self.gives((0,), reads_of, (), ((), ((),)))
        self.gives((), writes_of, (), ((), ((),)))

    def test_lean_with_none_some_and_all_unread(self):
        sheets = ((1,), (2,), (1, 2), (2,), (1,))
        for read, want in (
            (((), (), ()), ((), ((), (), ()))),
            (((), (), (4,)), (((1,),), ((), (), (0,)))),
            (((0, 1, 2, 3, 4), (), (1, 3)), (sheets, ((0, 1, 2, 3, 4), (), (1, 3)))),
            (((), (3,), (1, 3)), (((2,), (2,)), ((), (1,), (0, 1)))),
            (((4,), (0,), ()), (((1,), (1,)), ((1,), (0,), ()))),
            (((2,), (2,), (2,)), (((1, 2),), ((0,), (0,), (0,)))),
        ):
            self.gives(want, lean, (0, 1), (sheets, read))

    def test_counts(self):
        for history, store in told_stores():
            self.gives(plain_stores.writes(history, store), writes_of, history, store)
            self.gives(plain_stores.reads(store), reads_of, history, store)
            self.gives(plain_stores.lean(store), lean, history, store)

    def test_all_small_stores(self):
        for history in ((0,), (0, 0), (0, 1)):
            for store in store_samples.all_stores(history, 2):
                self.gives(plain_stores.writes(history, store), writes_of, history, store)
                self.gives(plain_stores.reads(store), reads_of, history, store)
                self.gives(plain_stores.lean(store), lean, history, store)

    def test_what_lean_keeps(self):
        for history, store in told_stores():
            kept = lean(history, store)
            self.same(reads_of(history, kept), reads_of(history, store))
            self.same(fault_of(history, kept), fault_of(history, store))
            if fault_of(history, store) is None:
                self.same(manner_of(history, kept), manner_of(history, store))
            pairs = zip(writes_of(history, kept), writes_of(history, store), strict=True)
            self.assertTrue(all(one <= other for one, other in pairs))
            self.same(lean(history, kept), kept)

    def test_refusals(self):
        for history in ((0, 1), samples.WIDE, samples.FORK):
            for bad in store_samples.no_stores(history):
                for function in (writes_of, reads_of, lean):
                    self.refuses("store", function, history, bad)

    def test_limits(self):
        line = tuple(range(24))
        store = ((tuple(range(1, 25)),) * 79 + ((24,),), ((),) + (tuple(range(0, 80, 2)),) * 24)
        self.gives((79,) * 23 + (80,), writes_of, line, store)
        self.gives((0,) + (40,) * 24, reads_of, line, store)
        self.gives(((tuple(range(1, 25)),) * 40, ((),) + (tuple(range(40)),) * 24), lean, line, store)
