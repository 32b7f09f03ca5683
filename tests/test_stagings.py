"""Sets of runs that stand after each entry."""
import itertools

from sincemarks.stagings import is_staging, led_pouring, staging_counts, staging_of, staging_store
from tests import plain_stores, samples
from tests.cases import Case
from tests.test_pourings import NO_POURINGS, some_pourings, stands

STAGING = (((1,),), ((1, 2),), ((1,), (2, 3)))


def writings(staging):
    """The writings (entry, run), one by one."""
    found, before = [], ()
    for entry, standing in enumerate(staging, start=1):
        found += [(entry, run) for run in sorted(standing) if run not in before]
        before = standing
    return found


def store_of(staging):
    """The store, each version looking back for the latest writing of each run."""
    wrote = writings(staging)
    read = [()]
    for entry, standing in enumerate(staging, start=1):
        read.append(tuple(sorted(
            max(k for k, (at, told) in enumerate(wrote) if told == run and at <= entry) for run in standing
        )))
    return tuple(run for _, run in wrote), tuple(read)


def counts_of(staging):
    sheets, read = store_of(staging)
    entries = range(1, len(staging) + 1)
    return tuple(sum(entry in sheet for sheet in sheets) for entry in entries), tuple(len(told) for told in read[1:])


def is_run(entry, thing):
    return type(thing) is tuple and len(thing) > 0 and all(type(k) is int and 1 <= k <= entry for k in thing) and (
        list(thing) == sorted(set(thing))
    )


def is_plainly(thing):
    if type(thing) is not tuple or len(thing) > 20:
        return False
    for entry, standing in enumerate(thing, start=1):
        if type(standing) is not tuple or not all(is_run(entry, run) for run in standing):
            return False
        if list(standing) != sorted(set(standing)) or {k for run in standing for k in run} != set(range(1, entry + 1)):
            return False
    return len(writings(thing)) <= 80


def all_standing(entry):
    """All sets that may stand after an entry."""
    entries = range(1, entry + 1)
    runs = [run for size in entries for run in itertools.combinations(entries, size)]
    for size in range(1, len(runs) + 1):
        for standing in itertools.combinations(sorted(runs), size):
            if {k for run in standing for k in run} == set(entries):
                yield standing


def some_staging(many, source):
    """Any staging: runs that stay, vanish, come back, share entries."""
    staging, seen = [], []
    for entry in range(1, many + 1):
        standing = {run for run in (staging[-1] if staging else ()) if source.random() < 0.7}
        standing |= {run for run in seen if source.random() < 0.1}
        lacking = [k for k in range(1, entry + 1) if not any(k in run for run in standing)]
        while lacking:
            few = source.randint(1, len(lacking))
            more = source.sample(range(1, entry + 1), source.choice((0, 0, 0, 1)))
            standing.add(tuple(sorted({*lacking[:few], *more})))
            lacking = lacking[few:]
        staging.append(tuple(sorted(standing)))
        seen += standing
    return tuple(staging)


def some_stagings(largest=20, turns=6):
    for many in range(largest + 1):
        for turn in range(turns):
            staging = some_staging(many, samples.chance("staging", many, turn))
            if is_plainly(staging):
                yield staging


def with_writings(many):
    """A staging of twenty entries with so many writings, from twenty on."""
    staging = []
    left = many - 20
    for entry in range(1, 21):
        runs = [tuple(range(1, entry + 1))]
        # Runs that stand after each second entry are written anew each time.
        for k in range(2, min(entry, 11) if entry % 2 == 0 else 0):
            if left > 0:
                runs.append((k,))
                left -= 1
        staging.append(tuple(sorted(runs)))
    return tuple(staging)


class Stagings(Case):
    def test_by_hand(self):
        self.gives((((1,),), ((1,), (2,)), ((1, 2, 3),)), staging_of, (0, 0, 2))
        self.gives((((1,), (1, 2), (1,), (2, 3)), ((), (0,), (1,), (2, 3))), staging_store, STAGING)
        self.gives(((3, 2, 1), (1, 1, 2)), staging_counts, STAGING)
        self.gives((0, 1), led_pouring, (((1,),), ((1, 2),)))
        self.gives((), staging_of, ())
        self.gives(((), ((),)), staging_store, ())
        self.gives(((), ()), staging_counts, ())
        self.gives((), led_pouring, ())

    def test_what_is_none(self):
        for thing in (
            None, True, 0, "", [], [((1,),)], ((),), (((),),), ((1,),), ((((1,),),),), (((2,),),), (((1,), (1,)),), (((0, 1),),),
            (((True,),),), ([(1,)],), (((1,),), [(1, 2)]), (((1,),), ((1,),)), (((1,),), ((2,),)), (((1,),), ((2,), (1,))),
            (((1,),), ((1, 2), (1,))), (((1,),), ((2, 1),)), (((1,),), ((1, 2, 3),)), (((1,),), ((1, 2), (2, 3))), (((1,),), ()),
            (((1,),), ((1,), (1,), (2,))), (((1,),), ((1, 1, 2),)), (((1,),), ((1,), (2,), ())), (((1,),), ((), (1, 2))),
            (((1,),), ((1,), [2])), (((1,),), ((1,), 2)), (((1,),), ((1,), (None,))), (((1,),), ((1,), ("2",))), (((1,),), "ab"),
            (((1,),), None), (((1,),), ((1, True),)), (((1,),), ((1, 2),), ((1, 2),)), (((1,),), ((1, 2),), ((1,), (3,))), {},
        ):
            self.assertFalse(is_plainly(thing), thing)
            self.gives(False, is_staging, thing)
            for function in (staging_store, staging_counts, led_pouring):
                self.refuses("staging", function, thing)

    def test_what_is_one(self):
        self.gives(True, is_staging, ())
        self.gives(True, is_staging, STAGING)
        for one in all_standing(1):
            for two in all_standing(2):
                for three in list(all_standing(3))[::3]:
                    self.gives(True, is_staging, (one, two, three))
                    self.gives(is_plainly((one, three, two)), is_staging, (one, three, two))
        for staging in some_stagings():
            self.gives(True, is_staging, staging)
            self.gives(is_plainly(staging[1:]), is_staging, staging[1:])
            self.gives(is_plainly(staging[:-1]), is_staging, staging[:-1])
            self.gives(is_plainly(staging[::-1]), is_staging, staging[::-1])

    def test_odd_things(self):
        for thing in samples.ANY:
            self.gives(is_plainly(thing), is_staging, thing)
            self.gives(is_plainly((thing,)), is_staging, (thing,))
            self.gives(is_plainly(((thing,),)), is_staging, ((thing,),))
            self.gives(is_plainly(((1,),) + (thing,)), is_staging, ((1,),) + (thing,))

    def test_other_orders(self):
        for standing in itertools.permutations(((1,), (1, 2), (2, 3), (3,))):
            thing = (((1,),), ((1, 2),), standing)
            self.gives(list(standing) == sorted(standing), is_staging, thing)

    def test_twenty_entries(self):
        runs = tuple((tuple(range(1, entry + 1)),) for entry in range(1, 23))
        for many, want in ((19, True), (20, True), (21, False), (22, False)):
            self.gives(want, is_staging, runs[:many])
        self.refuses("staging", staging_store, runs[:21])
        self.same(len(staging_store(runs[:20])[0]), 20)

    def test_eighty_writings(self):
        for many in (20, 50, 79, 80, 81, 85):
            staging = with_writings(many)
            self.same(len(writings(staging)), many)
            self.gives(many <= 80, is_staging, staging)
            if many <= 80:
                self.gives(store_of(staging), staging_store, staging)
            else:
                for function in (staging_store, staging_counts, led_pouring):
                    self.refuses("staging", function, staging)

    def test_of_pourings(self):
        for pouring in some_pourings():
            pouring = pouring[:20]
            found, _ = stands(pouring)
            want = tuple(tuple(tuple(range(first, last + 1)) for first, last in runs) for runs in found[1:])
            self.gives(want, staging_of, pouring)
            self.gives(True, is_staging, want)
        self.refuses_each(staging_of, ((0, 1),), {"pouring": NO_POURINGS})


class Stores(Case):
    def test_any(self):
        for staging in some_stagings():
            store = store_of(staging)
            self.gives(store, staging_store, staging)
            self.gives(counts_of(staging), staging_counts, staging)
            line = tuple(range(len(staging)))
            self.assertIsNone(plain_stores.fault(line, store))
            self.same((plain_stores.writes(line, store), plain_stores.reads(store)[1:]), counts_of(staging))

    def test_runs_that_come_back(self):
        staging = (((1,),), ((1, 2),), ((1,), (1, 2), (3,)), ((1,), (2, 3, 4)), ((1, 2), (3,), (4, 5)))
        want = (
            ((1,), (1, 2), (1,), (3,), (2, 3, 4), (1, 2), (3,), (4, 5)),
            ((), (0,), (1,), (1, 2, 3), (2, 4), (5, 6, 7)),
        )
        self.gives(want, staging_store, staging)
        self.same(store_of(staging), want)

    def test_led(self):
        for staging in some_stagings(9, 3):
            pouring = self.answer(led_pouring, staging)
            self.looked_at(staging, pouring)

    def looked_at(self, staging, pouring):
        found, written = stands(pouring)
        self.assertEqual(len(pouring), len(staging))
        writes, reads = counts_of(staging)
        for entry in range(1, len(staging) + 1):
            self.assertLessEqual(sum(first <= entry <= last for first, last in written), writes[entry - 1], staging)
            self.assertLessEqual(len(found[entry]), reads[entry - 1], staging)

    def test_led_of_large_ones(self):
        self.looked_at(with_writings(80), self.answer(led_pouring, with_writings(80)))
        for staging in list(some_stagings(20, 1))[-4:]:
            self.looked_at(staging, self.answer(led_pouring, staging))

    def test_led_of_a_pouring(self):
        for pouring in list(some_pourings())[::9]:
            staging = staging_of(pouring[:12])
            self.looked_at(staging, led_pouring(staging))
