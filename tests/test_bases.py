"""[27] Bases and plans; [28] chains, sheets, holders, readers and the stores of bases."""
from sincemarks.baseskinds import crossing_of, is_bases, is_plan
from sincemarks.chains import chain_of, holders_of, reads_by, readers_of, sheet_of, store_by, writes_by
from sincemarks.faults import fault_of, manner_of
from sincemarks.storekinds import is_store
from tests import plain_stores, samples, store_samples
from tests.cases import Case

TWOS, FREE = (0, 1, 0, 3, 3), (0, 0, 0, 0, 0)


class Kinds(Case):
    def looked_at(self, history, bases):
        crossings = plain_stores.crossings(history, bases)
        self.gives(True, is_bases, history, bases)
        self.gives(not crossings, is_plan, history, bases)
        first = min(crossings, key=lambda pair: (pair[1], pair[0])) if crossings else None
        self.gives(first, crossing_of, history, bases)
        return first

    def test_by_hand(self):
        self.gives((3, 4), crossing_of, (0, 1, 2, 3), (0, 1, 0, 2))
        for bases in (TWOS, FREE, samples.LINE, (0, 1, 1, 1, 1), (0, 0, 2, 2, 0)):
            self.gives(None, crossing_of, samples.LINE, bases)
            self.gives(True, is_plan, samples.LINE, bases)
        for bases, pair in (
            ((0, 0, 1, 3, 4), (2, 3)), ((0, 0, 2, 1, 4), (2, 4)), ((0, 1, 0, 0, 1), (3, 5)),
            ((0, 0, 0, 2, 1), (3, 4)), ((0, 0, 0, 0, 1), (2, 5)), ((0, 1, 2, 0, 3), (4, 5)),
        ):
            self.gives(pair, crossing_of, samples.LINE, bases)
            self.gives(False, is_plan, samples.LINE, bases)

    def test_several_pairs(self):
        # (2, 3) and (2, 4), (3, 4) break the condition: the least z, then the least v.
        self.gives((2, 3), crossing_of, (0, 1, 2, 3), (0, 0, 1, 1))
        self.gives((2, 4), crossing_of, (0, 1, 2, 3), (0, 0, 0, 1))
        self.gives((3, 5), crossing_of, samples.LINE, (0, 1, 0, 0, 2))

    def test_versions_beside_one_another_do_not_cross(self):
        self.gives(None, crossing_of, (0, 1, 1, 3), (0, 0, 1, 3))
        self.gives(None, crossing_of, (0, 1, 1, 2), (0, 1, 0, 1))
        self.gives((3, 4), crossing_of, (0, 1, 1, 3), (0, 1, 0, 1))

    def test_all_bases_of_small_histories(self):
        plans = 0
        for many in range(5):
            for history in samples.all_histories(many):
                for bases in plain_stores.all_bases(history):
                    plans += self.looked_at(history, bases) is None
        self.assertGreater(plans, 100)
        for bases in plain_stores.all_bases(samples.LINE):
            self.looked_at(samples.LINE, bases)

    def test_the_plans_of_lines(self):
        # As many as trees with so many inner nodes, each with two sides.
        for many, want in enumerate((1, 1, 2, 5, 14, 42, 132)):
            line = tuple(range(many))
            self.same(sum(is_plan(line, bases) for bases in plain_stores.all_bases(line)), want)

    def test_large_histories(self):
        found = set()
        for history in samples.LARGE:
            for bases in store_samples.some_bases(history, 3):
                found.add(self.looked_at(history, bases) is None)
        self.assertEqual(found, {True, False})

    def test_no_bases(self):
        for history in ((0,), (0, 1), samples.WIDE, samples.FORK, tuple(range(40))):
            for bad in store_samples.no_bases(history):
                self.gives(False, is_bases, history, bad)
                self.gives(False, is_plan, history, bad)
                self.refuses("bases", crossing_of, history, bad)

    def test_values_of_any_sort(self):
        for history in ((), (0,), (0, 1), (0, 0)):
            for thing in samples.ANY:
                self.gives(plain_stores.is_bases(history, thing), is_bases, history, thing)
                self.gives(plain_stores.is_plan(history, thing), is_plan, history, thing)


class Chains(Case):
    def looked_at(self, history, bases):
        versions = plain_stores.later(history)
        chains = [plain_stores.chain(bases, version) for version in (0, *versions)]
        sheets = [plain_stores.sheet(history, bases, version) for version in versions]
        for version, chain in enumerate(chains):
            self.gives(chain, chain_of, history, bases, version)
        for version, sheet in zip(versions, sheets, strict=True):
            self.gives(sheet, sheet_of, history, bases, version)
            holders = tuple(z for z in versions if version in sheets[z - 1])
            self.gives(holders, holders_of, history, bases, version)
            readers = tuple(z for z in versions if version in chains[z])
            self.gives(readers, readers_of, history, bases, version)
        self.gives(tuple(len(chain) for chain in chains), reads_by, history, bases)
        store = plain_stores.based(history, bases)
        self.gives(plain_stores.writes(history, store), writes_by, history, bases)
        self.gives(store, store_by, history, bases)
        self.same(is_store(history, store), True)
        self.same(fault_of(history, store), None)
        self.same(manner_of(history, store), "order")

    def test_by_hand(self):
        line = samples.LINE
        self.gives((5, 3), chain_of, line, TWOS, 5)
        self.gives((), chain_of, line, TWOS, 0)
        self.gives((1, 3), holders_of, line, TWOS, 1)
        self.gives((3, 4, 5), readers_of, line, TWOS, 3)
        self.gives((1, 2, 3), sheet_of, line, TWOS, 3)
        self.gives((0, 1, 2, 1, 2, 2), reads_by, line, TWOS)
        self.gives((2, 2, 1, 2, 1), writes_by, line, TWOS)
        self.gives((5, 4, 3, 2, 1), writes_by, line, FREE)
        sheets = ((1,), (2,), (1, 2, 3), (4,), (4, 5))
        self.gives((sheets, ((), (0,), (0, 1), (2,), (2, 3), (2, 4))), store_by, line, TWOS)
        self.gives(((), ((),)), store_by, (), ())
        self.gives((0,), reads_by, (), ())
        self.gives((), writes_by, (), ())
        self.gives((1, 4, 6), sheet_of, samples.FORK[:5] + (4,), (0, 1, 0, 0, 0, 0), 6)

    def test_all_bases_of_small_histories(self):
        for history in samples.SMALL[:10:2] + samples.SMALL[10::3]:
            for bases in plain_stores.all_bases(history):
                self.looked_at(history, bases)

    def test_large_histories(self):
        for history in samples.LARGE:
            for bases in list(store_samples.some_bases(history, 1))[:3]:
                self.looked_at(history, bases)

    def test_refusals(self):
        for history in ((0,), samples.WIDE, samples.FORK):
            bad_bases = store_samples.no_bases(history)
            wrongs = {"bases": bad_bases, "version": samples.no_versions(history)}
            later = {"bases": bad_bases, "version": samples.no_versions(history) + (0,)}
            change = {"bases": bad_bases, "change": samples.no_versions(history) + (0,)}
            self.refuses_each(chain_of, (history, history, 1), wrongs)
            self.refuses_each(sheet_of, (history, history, 1), later)
            self.refuses_each(readers_of, (history, history, 1), later)
            self.refuses_each(holders_of, (history, history, 1), change)
            for function in (reads_by, writes_by, store_by):
                self.refuses_each(function, (history, history), {"bases": bad_bases})
