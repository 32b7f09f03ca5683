"""[32] Stores as objects, and those that bases make."""
from sincemarks.errors import MarkError, NotUsable
from sincemarks.historyclasses import Told
from sincemarks.storeclasses import Based, Store
from tests import plain_stores, samples, store_samples
from tests.cases import Case, exactly

SHORT = (0, 1)
SHEETS, READ = ((1,), (2,), (1, 2), (2,)), ((), (0,), (0, 1, 2))


def told_stores():
    """Histories with the sheets and the rows of stores of all sorts."""
    for history in samples.SMALL[::4] + samples.LARGE[:3] + samples.LARGE[12:13]:
        for sheets, read in store_samples.right_stores(history, 1):
            yield history, sheets, read
        for sheets, read in list(store_samples.faulty_stores(history, 1))[:4]:
            yield history, sheets, read


class Stores(Case):
    def test_properties_and_length(self):
        for history, sheets, read in told_stores():
            store = self.answer(Store, history, sheets, read)
            self.same(store.tree, history)
            self.same(store.pair, (sheets, read))
            self.same(len(store), len(sheets))

    def test_they_cannot_be_set(self):
        store = Store(SHORT, SHEETS, READ)
        for word in ("tree", "pair"):
            with self.assertRaises(AttributeError):
                setattr(store, word, ())
        self.same(store.pair, (SHEETS, READ))

    def test_not_right_stores_are_stores(self):
        self.same(Store(SHORT, ((1, 2),), ((0,), (), ())).pair, (((1, 2),), ((0,), (), ())))
        self.same(len(Store((), (), ((),))), 0)

    def test_calls(self):
        for history, sheets, read in told_stores():
            store = Store(history, sheets, read)
            for version, numbers in enumerate(read):
                self.gives(tuple(sheets[number] for number in numbers), store, version)
        self.gives(((1,), (2,), (1, 2)), Store(SHORT, SHEETS, READ), 2)
        self.gives((), Store(SHORT, SHEETS, READ), 0)

    def test_calls_with_no_version(self):
        for history in ((), SHORT, samples.FORK):
            store = Store(history, (), ((),) * (len(history) + 1))
            for bad in samples.no_versions(history):
                self.refuses("version", store, bad)

    def test_in(self):
        for history, sheets, read in told_stores():
            store = Store(history, sheets, read)
            for versions in samples.subsets(history, 4):
                self.same(versions in store, versions in sheets)
            for sheet in sheets:
                self.same(sheet in store, True)
                self.same(sheet not in store, False)
        store = Store(SHORT, SHEETS, READ)
        for thing in ((True,), (1, True), [1], [1, 2], 1, True, None, (), ((1,),), "1", SHEETS, READ, (3,), (2, 1), 0,
                      (1, 2, 3), store, ([1],), (None,), ("1",), (False,)):
            self.same(thing in store, False)
        self.same((0,) in Store((0,), ((1,),), ((), ())), False)
        for thing in samples.ANY:
            self.same(thing in store, any(exactly(thing, sheet) for sheet in SHEETS))

    def test_refusals(self):
        for bad in samples.NO_HISTORIES:
            self.refuses("history", Store, bad, SHEETS, READ)
            self.refuses("history", Store, bad, None, None)
        for history in (SHORT, samples.WIDE):
            rows = ((),) * (len(history) + 1)
            for bad in samples.no_sets(history) + ((),):
                self.refuses("sheets", Store, history, (bad,), rows)
                self.refuses("sheets", Store, history, ((1,), bad), None)
                self.refuses("sheets", Store, history, (bad, (1,)), ((5,),))
            for bad in (None, True, 0, "", [], [(1,)], ((1,), None), "sheets", {}):
                self.refuses("sheets", Store, history, bad, rows)
                self.refuses("sheets", Store, history, bad, None)
            for bad in (
                None, True, 0, "", (), [], list(rows), rows[1:], rows + ((),), rows[1:] + (None,), rows[1:] + ([],),
                rows[1:] + ((1,),), rows[1:] + ((True,),), rows[1:] + ((-1,),), rows[1:] + ((0, 0),), "abc",
                (None,) * len(rows), ((1,),) + rows[1:], rows[1:] + ((0, 1),), rows[1:] + ((False,),),
            ):
                self.refuses("read", Store, history, ((1,),), bad)
        # Rows of a store without sheets read nothing.
        self.refuses("read", Store, SHORT, (), ((), (), (0,)))
        self.refuses("read", Store, (), (), ())
        self.refuses("sheets", Store, (), ((1,),), ((),))

    def test_a_store_is_not_bent_by_what_it_gave(self):
        store = Store(SHORT, SHEETS, READ)
        for told in (store.tree, store.pair, store(2), store.pair[0], store.pair[1]):
            self.assertIs(type(told), tuple)

    def test_limits(self):
        line = tuple(range(24))
        sheets = (tuple(range(1, 25)),) * 80
        store = self.answer(Store, line, sheets, (tuple(range(80)),) * 25)
        self.same(len(store), 80)
        self.gives(sheets, store, 24)


class Equality(Case):
    def unlike(self, one, other):
        self.same([one == other, other == one, one != other, other != one], [False, False, True, True])

    def alike(self, one, other):
        self.same([one == other, other == one, one != other, other != one], [True, True, False, False])

    def test_equal(self):
        for history, sheets, read in told_stores():
            store = Store(history, sheets, read)
            self.alike(store, store)
            self.alike(store, Store(tuple(list(history)), tuple(list(sheets)), tuple(list(read))))

    def test_unequal(self):
        store = Store(SHORT, SHEETS, READ)
        for other in (
            Store((0, 0), SHEETS, READ), Store(SHORT, SHEETS[:3], READ), Store(SHORT, SHEETS, READ[:2] + ((0, 1),)),
            Store(SHORT, SHEETS[:3] + ((1,),), READ), Store(SHORT, SHEETS, ((0,),) + READ[1:]),
            Store((0,), ((1,),), ((), (0,))), Store((), (), ((),)),
        ):
            self.unlike(store, other)

    def test_nothing_else_is_equal(self):
        store = Store(SHORT, SHEETS, READ)
        for thing in (
            None, True, 0, (SHEETS, READ), store.pair, (SHORT, SHEETS, READ), [SHEETS, READ], "store", (), SHORT,
            Told(("sum",), SHORT, (1, 1)), object(),
        ):
            self.unlike(store, thing)

    def test_a_based_equals_the_store_with_its_tree_and_pair(self):
        for history in samples.SMALL[::2]:
            for bases in plain_stores.all_bases(history):
                based, store = Based(history, bases), Store(history, *plain_stores.based(history, bases))
                self.alike(based, store)
                self.alike(based, Based(history, bases))
                self.unlike(based, based.with_sheet((1,)) if history else None)
                self.unlike(based, based.pair)
        self.unlike(Based(SHORT, (0, 1)), Based(SHORT, (0, 0)))
        self.unlike(Based(SHORT, (0, 0)), Based((0, 0), (0, 0)))
        self.unlike(Based(SHORT, (0, 0)), (0, 0))


class Sums(Case):
    def test_plus(self):
        books = [(Store(*told), *told) for told in told_stores()]
        for one, history, sheets, read in books:
            for other, other_history, more, behind in books[::7]:
                if history != other_history:
                    self.not_added(one, other)
                    continue
                both = one + other
                want = (sheets + more, tuple(
                    first + tuple(len(sheets) + number for number in second)
                    for first, second in zip(read, behind, strict=True)
                ))
                self.assertIs(type(both), Store)
                self.same(both.tree, history)
                self.same(both.pair, want)
                self.same([one.pair, other.pair], [(sheets, read), (more, behind)])

    def test_by_hand(self):
        one, other = Store(SHORT, ((1,), (2,)), ((), (0,), (0, 1))), Store(SHORT, ((1, 2),), ((0,), (), (0,)))
        self.same((one + other).pair, (((1,), (2,), (1, 2)), ((2,), (0,), (0, 1, 2))))
        self.same((other + one).pair, (((1, 2), (1,), (2,)), ((0,), (1,), (0, 1, 2))))
        self.same((one + one).pair, (((1,), (2,), (1,), (2,)), ((), (0, 2), (0, 1, 2, 3))))

    def not_added(self, one, other):
        before = one.pair
        with self.assertRaises(NotUsable) as caught:
            one + other
        self.same((caught.exception.word, caught.exception.at), ("other", -1))
        self.same(one.pair, before)

    def test_refusals(self):
        for one in (Store(SHORT, SHEETS, READ), Based(SHORT, (0, 1))):
            for bad in (
                None, True, 0, (), (SHEETS, READ), SHORT, "", [], one.pair, Store((0, 0), SHEETS, READ),
                Store((0,), (), ((), ())), Based((0, 0), (0, 0)), Store((0, 1, 1), (), ((),) * 4),
                Told(("sum",), SHORT, (1, 1)), object(),
            ):
                self.not_added(one, bad)

    def test_plus_with_a_based(self):
        based, store = Based(SHORT, (0, 0)), Store(SHORT, SHEETS, READ)
        for one, other in ((based, store), (store, based), (based, based), (based, Based(SHORT, (0, 1)))):
            both = one + other
            self.assertIs(type(both), Store)
            self.same(both.pair[0], one.pair[0] + other.pair[0])
            self.same(len(both), len(one) + len(other))
            for version in range(3):
                self.same(both(version), one(version) + other(version))

    def test_in_place(self):
        one = first = Store(SHORT, ((1,),), ((), (0,), ()))
        one += Store(SHORT, ((2,),), ((), (), (0,)))
        self.same(one.pair, (((1,), (2,)), ((), (0,), (1,))))
        self.same(first.pair, (((1,),), ((), (0,), ())))


class Further(Case):
    def test_with_sheet(self):
        for history, sheets, read in told_stores():
            store = Store(history, sheets, read)
            source = samples.chance("with", history, sheets)
            for sheet in samples.subsets(history, 3)[1:6]:
                for by in ((), tuple(range(len(history) + 1)), (0,), (len(history),),
                           tuple(sorted(source.sample(range(len(history) + 1), source.randint(0, len(history)))))):
                    if not sheet:
                        continue
                    more = self.answer(store.with_sheet, sheet, by)
                    self.assertIs(type(more), Store)
                    self.same(more.tree, history)
                    self.same(more.pair, (sheets + (sheet,), tuple(
                        numbers + (len(sheets),) if version in by else numbers for version, numbers in enumerate(read)
                    )))
                    self.same(store.pair, (sheets, read))

    def test_by_left_out(self):
        store = Store(SHORT, SHEETS, READ)
        more = self.answer(store.with_sheet, (1, 2))
        self.same(more.pair, (SHEETS + ((1, 2),), READ))
        self.same(more, store.with_sheet((1, 2), by=()))
        self.same(store.with_sheet(sheet=(2,)), store.with_sheet((2,)))

    def test_by_goes_by_name_alone(self):
        with self.assertRaises(TypeError):
            Store(SHORT, SHEETS, READ).with_sheet((1,), (2,))

    def test_from_a_based(self):
        based = Based(SHORT, (0, 1))
        more = self.answer(based.with_sheet, (2,), (0, 2))
        self.assertIs(type(more), Store)
        self.same(more.pair, (((1,), (2,), (2,)), ((2,), (0,), (0, 1, 2))))
        self.same(based.since, (0, 1))

    def test_refusals(self):
        for history in ((0,), SHORT, samples.FORK):
            bad_by = [
                (len(history) + 1,), (-1,), (True,), (False,), (None,), ("0",), [], [0], None, 0, 1, True, "", "0",
                (0, 0), (1, 0), (0, len(history) + 1), ((0,),), (samples.GREAT,), {},
            ]
            wrongs = {"sheet": samples.no_sets(history) + ((),), "by": bad_by}
            store = Store(history, (), ((),) * (len(history) + 1))
            self.refuses_each(store.with_sheet, ((1,), (0, 1)), wrongs)
            self.refuses_each(Based(history, history).with_sheet, ((1,), (0, 1)), wrongs)


class Bases(Case):
    def test_since_and_the_store(self):
        for history in samples.SMALL:
            for bases in list(plain_stores.all_bases(history))[::2]:
                based = self.answer(Based, history, bases)
                self.same(based.since, bases)
                self.same(based.tree, history)
                self.same(based.pair, plain_stores.based(history, bases))
                self.same(len(based), len(history))
                self.assertIsInstance(based, Store)

    def test_calls_and_in(self):
        based = Based(samples.LINE, (0, 1, 0, 3, 3))
        self.gives(((1, 2, 3), (4, 5)), based, 5)
        self.gives((), based, 0)
        self.same([(1, 2, 3) in based, (1, 2) in based, (True,) in based, (1,) in based], [True, False, False, True])
        self.refuses("version", based, 6)
        with self.assertRaises(AttributeError):
            based.since = (0, 1, 2, 3, 4)

    def test_rebased(self):
        for history in samples.SMALL[::2]:
            for bases in list(plain_stores.all_bases(history))[::3]:
                based = Based(history, bases)
                for version in plain_stores.later(history):
                    above = {0, *plain_stores.chain(history, version)} - {version}
                    for base in sorted(above):
                        other = self.answer(based.rebased, version, base)
                        want = tuple(base if at == version else old for at, old in enumerate(bases, start=1))
                        self.assertIs(type(other), Based)
                        self.same(other.since, want)
                        self.same(other.pair, plain_stores.based(history, want))
                self.same(based.since, bases)

    def test_base_goes_by_name_alone(self):
        with self.assertRaises(TypeError):
            Based(SHORT, (0, 1)).rebased(1, 0)
        with self.assertRaises(TypeError):
            Based(SHORT, (0, 1)).rebased(1)

    def test_refusals(self):
        for bad in samples.NO_HISTORIES:
            self.refuses("history", Based, bad, (0, 1))
            self.refuses("history", Based, bad, None)
        for history in ((0,), SHORT, samples.WIDE):
            for bad in store_samples.no_bases(history):
                self.refuses("bases", Based, history, bad)
        for history, version in (((0,), 1), (SHORT, 1), (samples.FORK, 5), (samples.WIDE, 4)):
            elders = (0,) if version == 1 else (0, 1, 4) if version == 5 else (0, 1)
            no_base = [at for at in range(-1, len(history) + 2) if at not in elders]
            wrongs = {
                "version": samples.no_versions(history) + (0,),
                "base": no_base + [True, False, None, "0", (0,), [0], samples.GREAT],
            }
            self.refuses_each(Based(history, history).rebased, (version, 0), wrongs)

    def test_a_refused_call_changes_nothing(self):
        based = Based(SHORT, (0, 1))
        for call in (
            lambda: based.rebased(2, base=2), lambda: based.with_sheet(()), lambda: based(5), lambda: based + 1,
            lambda: based.rebased(0, base=0), lambda: based.with_sheet((1,), by=(3,)),
        ):
            with self.assertRaises(MarkError):
                call()
            self.same([based.since, based.pair, based.tree], [(0, 1), (((1,), (2,)), ((), (0,), (0, 1))), SHORT])

    def test_limits(self):
        for history in (tuple(range(40)), (0,) * 40):
            based = self.answer(Based, history, (0,) * 40)
            self.same(based.pair, plain_stores.based(history, (0,) * 40))
