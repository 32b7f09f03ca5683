"""[25] Faults of stores, and the manners of right ones."""
from sincemarks.faults import fault_of, is_right, manner_of
from tests import plain, plain_stores, samples, store_samples
from tests.cases import Case


class Faults(Case):
    def looked_at(self, history, store):
        fault = plain_stores.fault(history, store)
        self.gives(fault, fault_of, history, store)
        self.gives(fault is None, is_right, history, store)
        if fault is None:
            self.gives(plain_stores.manner(history, store), manner_of, history, store)
        else:
            self.fails("Faulty", fault, manner_of, history, store)
        return fault

    def test_by_hand(self):
        fork = (0, 1, 1)
        for sheets, read, want in (
            (((1,), (2,), (3,)), ((), (0,), (0, 1), (0, 2)), None),
            (((1,), (2,), (3,)), ((), (), (0, 1), (0, 2)), (1, 1)),
            (((1,), (2,), (3,)), ((0,), (0,), (0, 1), (0, 2)), (0, 1)),
            (((1,), (2,), (3,)), ((1, 2), (0,), (0, 1), (0, 2)), (0, 2)),
            (((1,), (2,), (3,)), ((), (0, 2), (0, 1), (0, 2)), (1, 3)),
            (((1,), (2,), (3,)), ((), (0,), (1, 2), (0, 2)), (2, 1)),
            (((1,), (2,), (3,)), ((), (0,), (2,), (0, 2)), (2, 1)),
            (((1,), (2,), (3,)), ((), (0,), (0, 2), (0, 2)), (2, 2)),
            (((1,), (2,), (3,)), ((), (0,), (0, 1, 2), (0, 2)), (2, 3)),
            (((1,), (2,), (3,)), ((), (0,), (0, 1), (0, 1)), (3, 2)),
            (((1,), (2,), (3,)), ((), (0,), (0, 1), (0,)), (3, 3)),
            (((1,), (2,), (3,)), ((), (2,), (2,), ()), (1, 1)),
            (((1, 2), (1, 3), (1,)), ((), (2,), (0,), (1,)), None),
            (((1, 2), (1, 3), (1,)), ((), (0,), (0,), (1,)), (1, 2)),
            ((), ((), (), (), ()), (1, 1)),
        ):
            self.gives(want, fault_of, fork, (sheets, read))
            self.looked_at(fork, (sheets, read))
        self.gives(None, fault_of, (), ((), ((),)))
        self.gives("order", manner_of, (), ((), ((),)))
        self.gives((1, 2), fault_of, (0, 1), (((1, 2),), ((), (0,), (0,))))

    def test_manners_by_hand(self):
        line = (0, 1, 2)
        first = ((), (0,), (0, 1))
        for sheets, last, want in (
            (((1,), (2,), (3,)), (0, 1, 2), "order"),
            (((1,), (2,), (1, 2, 3)), (2,), "order"),
            (((1,), (2,), (2, 3)), (0, 2), "order"),
            (((1,), (2,), (1, 3)), (1, 2), "once"),
            (((1,), (2,), (2, 3)), (0, 1, 2), "any"),
            (((1,), (2,), (1, 2, 3)), (0, 2), "any"),
            (((1,), (2,), (3,), (3,)), (0, 1, 2, 3), "any"),
            (((1,), (2,), (1, 3), (1, 2)), (2, 3), "any"),
        ):
            self.gives(want, manner_of, line, (sheets, first + (last,)))
        # The manner of the whole is the least one of its versions, wherever this stands.
        fork = (0, 1, 1)
        sheets = ((1,), (2,), (3,), (1,))
        self.gives("order", manner_of, fork, (sheets, ((), (0,), (0, 1), (0, 2))))
        self.gives("any", manner_of, fork, (sheets, ((), (0, 3), (0, 1), (0, 2))))
        self.gives("any", manner_of, fork, (sheets, ((), (0,), (0, 1, 3), (0, 2))))
        self.gives("any", manner_of, fork, (sheets, ((), (0,), (0, 1), (0, 2, 3))))

    def test_a_stretch_has_no_gap_in_the_path(self):
        # Of 1, 3, 4 below one another, 2 beside them, 1 and 3 are a stretch.
        history = (0, 1, 1, 3)
        sheets = ((1,), (2,), (1, 3), (4,), (1, 4), (3,))
        rows = ((), (0,), (0, 1), (2,))
        self.gives("order", manner_of, history, (sheets, rows + ((2, 3),)))
        self.gives("once", manner_of, history, (sheets, rows + ((4, 5),)))
        self.gives("any", manner_of, history, (sheets, rows + ((2, 4),)))

    def test_all_small_stores(self):
        for history in ((0,), (0, 0), (0, 1)):
            for store in store_samples.all_stores(history, 2):
                self.looked_at(history, store)
        for store in store_samples.all_stores((0,), 3):
            self.looked_at((0,), store)

    def test_right_stores(self):
        found = set()
        for history in samples.SMALL[::2] + samples.LARGE[:3] + samples.LARGE[12:15]:
            for store in store_samples.right_stores(history, 4):
                self.assertIsNone(self.looked_at(history, store))
                found.add(manner_of(history, store))
        self.assertEqual(found, {"order", "once", "any"})

    def test_faulty_stores(self):
        for history in samples.SMALL[1::2] + samples.LARGE[:3] + samples.LARGE[12:14]:
            for store in store_samples.faulty_stores(history, 2):
                self.assertIsNotNone(self.looked_at(history, store))

    def test_each_version_with_a_change_lacking_and_one_too_many(self):
        for history in (samples.FORK, samples.LARGE[12]):
            paths = [plain.path(history, version) for version in range(len(history) + 1)]
            for version, path in enumerate(paths):
                for change in range(1, len(history) + 1):
                    bent = tuple(sorted({*path} ^ {change}))
                    sheets = [sheet for sheet in (*paths[:version], bent, *paths[version + 1:]) if sheet]
                    read = [[sheet] if sheet else [] for sheet in (*paths[:version], bent, *paths[version + 1:])]
                    store = (
                        tuple(sheets),
                        tuple(tuple(sheets.index(sheet) for sheet in told) for told in read),
                    )
                    self.same(self.looked_at(history, store), (version, change))

    def test_faulty_comes_ahead_of_every_manner(self):
        for store in store_samples.faulty_stores(samples.WIDE, 3):
            self.fails("Faulty", plain_stores.fault(samples.WIDE, store), manner_of, samples.WIDE, store)

    def test_refusals(self):
        for history in ((0, 1), samples.WIDE, samples.FORK):
            for bad in store_samples.no_stores(history):
                for function in (fault_of, is_right, manner_of):
                    self.refuses("store", function, history, bad)

    def test_limits(self):
        for history in (tuple(range(24)), (0,) * 24, tuple(k // 2 for k in range(24))):
            paths = tuple(plain.path(history, version) for version in range(1, 25))
            singles = tuple((change,) for change in range(1, 25))
            spare = ((1, 24),) * 32
            whole = (singles + spare + paths, ((),) + tuple((55 + version,) for version in range(1, 25)))
            self.same(self.looked_at(history, whole), None)
            apart = (singles + spare + paths, ((),) + tuple(tuple(v - 1 for v in path) for path in paths))
            self.same(self.looked_at(history, apart), None)
            bent = (singles + spare + paths, apart[1][:24] + ((23, 24),))
            self.looked_at(history, bent)
