"""[33] Heights, their bases, records and open rows; [G1] and [G2] for them."""
import itertools

from sincemarks.baseskinds import is_plan
from sincemarks.chains import chain_of, holders_of, reads_by, writes_by
from sincemarks.heights import bases_by, heights_of, is_heights, open_at, open_row, records_of
from tests import plain_stores, samples, store_samples
from tests.cases import Case
from tests.samples import GREAT

TWOS = (0, 1, 0, 3, 3)


def some_heights(history, many=3):
    """Heights that are alike, rising, falling, very great, and any."""
    count = len(history)
    source = samples.chance("heights", history)
    yield (1,) * count
    yield (GREAT,) * count
    yield tuple(range(1, count + 1))
    yield tuple(range(count, 0, -1))
    yield tuple(GREAT - k for k in range(count))
    yield tuple(GREAT - k % 3 for k in range(count))
    for most in (2, 3, 7, GREAT):
        for _ in range(many):
            yield tuple(source.randint(1, most) for _ in range(count))


class Kinds(Case):
    def test_heights(self):
        for history in samples.HISTORIES:
            for heights in some_heights(history, 1):
                self.gives(True, is_heights, history, heights)
        self.gives(True, is_heights, (), ())
        self.gives(True, is_heights, (0, 1), (1, 10 ** 60 - 1))

    def test_no_heights(self):
        for history in ((0,), (0, 1), samples.WIDE, samples.FORK, tuple(range(40))):
            for bad in store_samples.no_heights(history):
                self.gives(False, is_heights, history, bad)
        for history in ((), (0,), (0, 1)):
            for thing in samples.ANY:
                good = type(thing) is tuple and len(thing) == len(history)
                good = good and all(type(height) is int and height > 0 for height in thing)
                self.gives(good, is_heights, history, thing)


class Heights(Case):
    def looked_at(self, history, heights):
        bases = plain_stores.bases_by(history, heights)
        self.gives(bases, bases_by, history, heights)
        self.same(is_plan(history, bases), True)
        reads, writes = reads_by(history, bases), writes_by(history, bases)
        for version in range(len(history) + 1):
            records = plain_stores.chain(bases, version)
            self.gives(records, records_of, history, heights, version)
            self.same(len(records), reads[version])
            told = [heights[at - 1] for at in records]
            self.assertTrue(all(low < high for low, high in zip(told, told[1:])), told)
        for version in plain_stores.later(history):
            found = plain_stores.open_at(history, heights, version)
            self.gives(found, open_at, history, heights, version)
            self.same(found, holders_of(history, bases, version))
            row = tuple(sorted((heights[at - 1] for at in found), reverse=True))
            self.gives(row, open_row, history, heights, version)
            self.same(len(row), writes[version - 1])

    def test_by_hand(self):
        line = samples.LINE
        self.gives((2, 1, 2, 1, 1), heights_of, line, TWOS)
        self.gives(TWOS, bases_by, line, (2, 1, 2, 1, 1))
        self.gives((5, 3), records_of, line, (2, 1, 2, 1, 1), 5)
        self.gives((), records_of, line, (2, 1, 2, 1, 1), 0)
        self.gives((2, 1), open_row, line, (2, 1, 2, 1, 1), 2)
        self.gives((2, 3), open_at, line, (2, 1, 2, 1, 1), 2)
        # The nearest one that is strictly higher, not the nearest that is as high.
        self.gives((0, 0, 0, 0, 0), bases_by, line, (3, 3, 3, 3, 3))
        self.gives((0, 1, 2, 3, 4), bases_by, line, (5, 4, 3, 2, 1))
        self.gives((0, 0, 0, 0, 0), bases_by, line, (1, 2, 3, 4, 5))
        self.gives((0, 1, 1, 0, 4), bases_by, line, (5, 2, 2, 9, 8))
        self.gives((9, 8, 5), open_row, line[:3] + (0, 4), (5, 8, 9, 2, 1), 1)
        # An open row goes over all branches; version 2 reads the sheet of 1, so it is not open there.
        self.gives((0, 1, 0, 0), bases_by, samples.WIDE, (2, 1, 2, 3))
        self.gives((3, 2, 2), open_row, samples.WIDE, (2, 1, 2, 3), 1)
        self.gives((1, 3, 4), open_at, samples.WIDE, (2, 1, 2, 3), 1)
        self.gives((1,), open_row, samples.WIDE, (2, 1, 2, 3), 2)

    def test_no_changes(self):
        self.gives((), bases_by, (), ())
        self.gives((), heights_of, (), ())
        self.gives((), records_of, (), (), 0)

    def test_small_histories(self):
        for history in samples.SMALL:
            for heights in some_heights(history, 1):
                self.looked_at(history, heights)

    def test_all_small_heights(self):
        for history in samples.SMALL[5:10] + ((0, 1, 2, 3), (0, 1, 1, 3)):
            for heights in itertools.product((1, 2, 3), repeat=len(history)):
                self.looked_at(history, heights)

    def test_large_histories(self):
        for history in samples.LARGE:
            for heights in list(some_heights(history, 1))[::2]:
                self.looked_at(history, heights)

    def test_heights_of_bases(self):
        for history in samples.SMALL + (samples.LINE,):
            for bases in plain_stores.all_bases(history):
                heights = plain_stores.heights_of(history, bases)
                self.gives(heights, heights_of, history, bases)
                self.same(is_heights(history, heights), True)
                # Exactly the plans are found again.
                self.same(bases_by(history, heights) == bases, not plain_stores.crossings(history, bases))

    def test_heights_of_large_bases(self):
        for history in samples.LARGE:
            for bases in store_samples.some_bases(history, 2):
                heights = plain_stores.heights_of(history, bases)
                self.gives(heights, heights_of, history, bases)
                self.same(bases_by(history, heights) == bases, plain_stores.is_plan(history, bases))

    def test_bases_of_these_heights_have_no_count_greater(self):
        for history in samples.SMALL[::2] + (samples.LINE,) + samples.LARGE:
            few = plain_stores.all_bases(history) if len(history) < 6 else store_samples.some_bases(history, 3)
            for bases in few:
                made = bases_by(history, heights_of(history, bases))
                for count in (reads_by, writes_by):
                    pairs = zip(count(history, made), count(history, bases), strict=True)
                    self.assertTrue(all(one <= other for one, other in pairs), (history, bases))

    def test_plans_are_the_bases_of_heights(self):
        for history in samples.SMALL[10:]:
            made = {bases_by(history, heights) for heights in itertools.product((1, 2, 3, 4), repeat=len(history))}
            plans = {bases for bases in plain_stores.all_bases(history) if plain_stores.is_plan(history, bases)}
            self.assertEqual(made, plans, history)

    def test_records_are_the_chain(self):
        for history in samples.LARGE[:3]:
            for heights in some_heights(history, 1):
                bases = bases_by(history, heights)
                for version in range(len(history) + 1):
                    self.same(records_of(history, heights, version), chain_of(history, bases, version))

    def test_refusals(self):
        for history in ((0,), samples.WIDE, samples.FORK):
            ones, bad_heights = (1,) * len(history), store_samples.no_heights(history)
            wrongs = {"heights": bad_heights, "version": samples.no_versions(history)}
            self.refuses_each(records_of, (history, ones, 1), wrongs)
            wrongs = {"heights": bad_heights, "version": samples.no_versions(history) + (0,)}
            self.refuses_each(open_at, (history, ones, 1), wrongs)
            self.refuses_each(open_row, (history, ones, 1), wrongs)
            self.refuses_each(bases_by, (history, ones), {"heights": bad_heights})
            self.refuses_each(heights_of, (history, history), {"bases": store_samples.no_bases(history)})
