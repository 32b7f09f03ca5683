"""[23] What a store is, and its checker."""
import itertools

from sincemarks.storechecker import lets_store
from sincemarks.storekinds import is_store
from tests import plain_stores, samples, store_samples
from tests.cases import Case

SHORT = (0, 1)
GOOD = (((1,), (2,), (1, 2), (2,)), ((), (0,), (0, 1, 2)))


class Stores(Case):
    def looked_at(self, history, thing):
        fault = plain_stores.store_fault(history, thing)
        self.gives(fault is None, is_store, history, thing)
        if fault is None:
            self.gives(len(thing[0]), lets_store, history, thing)
        else:
            self.fails("InvalidPaper", fault, lets_store, history, thing)

    def test_stores(self):
        for history in samples.SMALL[::3] + samples.LARGE[:3]:
            for store in store_samples.right_stores(history, 2):
                self.gives(True, is_store, history, store)
                self.gives(len(store[0]), lets_store, history, store)

    def test_stores_that_are_not_right(self):
        for history in (samples.WIDE, samples.FORK):
            for store in store_samples.faulty_stores(history, 2):
                self.gives(True, is_store, history, store)
                self.gives(len(store[0]), lets_store, history, store)

    def test_sheets_may_be_equal_on_no_path_and_read_by_nobody(self):
        for store in (
            GOOD, ((), ((), (), ())), (((1, 2),) * 5, ((), (), ())), (((2,), (2,)), ((0, 1), (0, 1), ())),
            (((1, 2),), ((0,), (0,), (0,))),
        ):
            self.gives(len(store[0]), lets_store, SHORT, store)
            self.gives(True, is_store, SHORT, store)
        self.gives(1, lets_store, (0, 0), (((1, 2),), ((), (), ())))
        self.gives(0, lets_store, (), ((), ((),)))

    def test_shape(self):
        rows = ((), (), ())
        for thing in (
            None, True, 0, "ab", (), ((),), [(), rows], ([], rows), ((), list(rows)), (None, rows), ((), None),
            ((), rows, ()), ((), "abc"), ("", rows), (rows,), [[], []], ("", ""), ((), 3), (3, ()), ([], []),
            ([(1,)], ((), (), (0,))), (((0,),), []), (((0,),), None),
        ):
            self.gives(False, is_store, SHORT, thing)
            self.fails("InvalidPaper", ("shape", -1), lets_store, SHORT, thing)

    def test_each_sheet(self):
        for history in (SHORT, samples.FORK, (0,), tuple(range(24))):
            for k in range(4):
                for wrong in samples.no_sets(history) + ((),):
                    sheets = ((1,), (1,), (1,), (1,))
                    thing = (sheets[:k] + (wrong,) + sheets[k + 1:], ((),) * (len(history) + 1))
                    self.gives(False, is_store, history, thing)
                    self.fails("InvalidPaper", ("sheet", k), lets_store, history, thing)

    def test_each_row_of_the_second(self):
        for history in ((), (0,), SHORT, samples.FORK):
            sheets = ((1,),) * 3 if history else ()
            many = len(sheets)
            for version in range(len(history) + 1):
                for wrong in (
                    (many,), (many + 1,), (-1,), (True,), (False,), (None,), ("0",), ((0,),), [], [0], None, 0, 1,
                    True, "", "0", (0, many), (many, many + 1), (0, 0), (1, 0), (0, True), (1, 1), (samples.GREAT,),
                ):
                    rows = ((),) * version + (wrong,) + ((),) * (len(history) - version)
                    self.gives(False, is_store, history, (sheets, rows))
                    self.fails("InvalidPaper", ("read", version), lets_store, history, (sheets, rows))

    def test_how_many_rows(self):
        for history in samples.SMALL[::4] + (samples.FORK, tuple(range(24))):
            many = len(history) + 1
            for other in {0, 1, many - 1, many + 1, 2 * many} - {many}:
                self.fails("InvalidPaper", ("many", -1), lets_store, history, ((), ((),) * other))
                self.fails("InvalidPaper", ("many", -1), lets_store, history, ((), (None,) * other))
                self.gives(False, is_store, history, ((), ((),) * other))

    def test_the_first_fault_comes_first(self):
        self.fails("InvalidPaper", ("sheet", 1), lets_store, SHORT, (((1,), (), (0,)), (None,)))
        self.fails("InvalidPaper", ("sheet", 0), lets_store, SHORT, (((3,), ()), ()))
        self.fails("InvalidPaper", ("many", -1), lets_store, SHORT, (((1,),), (None, (5,))))
        self.fails("InvalidPaper", ("read", 1), lets_store, SHORT, (((1,),), ((), (1,), None)))
        self.fails("InvalidPaper", ("read", 0), lets_store, SHORT, (((1,),), (None, None, None)))
        self.fails("InvalidPaper", ("shape", -1), lets_store, SHORT, (((), (0,)), None))

    def test_values_of_any_sort(self):
        for history in ((), (0,), SHORT):
            for thing in samples.ANY:
                self.looked_at(history, thing)
            for one, other in itertools.product(samples.ODD[:20], repeat=2):
                self.looked_at(history, (one, other))

    def test_no_stores(self):
        for history in (SHORT, (0, 0), samples.WIDE):
            for thing in store_samples.no_stores(history):
                self.assertIsNotNone(plain_stores.store_fault(history, thing), thing)
                self.looked_at(history, thing)

    def test_all_small_pairs(self):
        sets = ((), (0,), (1,), (2,), (1, 2), (2, 1), (True,), [1], None)
        for history in ((), (0,), (0, 0)):
            for sheets in ((), *itertools.product(sets, repeat=1), *itertools.product(sets[1:6], repeat=2)):
                for row in sets:
                    for many in (0, 1, 2, 3):
                        self.looked_at(history, (sheets, (row,) * many))

    def test_limits(self):
        line = tuple(range(24))
        sheets = (tuple(range(1, 25)),) * 80
        store = (sheets, (tuple(range(80)),) * 25)
        self.gives(80, lets_store, line, store)
        self.fails("InvalidPaper", ("read", 24), lets_store, line, (sheets, store[1][:24] + ((80,),)))
        self.fails("InvalidPaper", ("sheet", 79), lets_store, line, (sheets[:79] + ((25,),), store[1]))
