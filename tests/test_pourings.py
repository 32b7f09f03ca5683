"""Logs that are poured together."""
import itertools

from sincemarks.pourings import is_pouring, plan_poured, poured_counts, pouring_of, standing_after
from tests import line_samples, plain_lines, plain_stores, samples
from tests.cases import Case
from tests.samples import GREAT

POURING = (0, 0, 2, 0, 1)
NO_POURINGS = (
    None, True, 0, "", "0", [], [0], (1,), (-1,), (True,), (False,), (None,), ("0",), ((0,),), (0, 2), (0, -1), (0, True), (0, None),
    (0, 0, 3), (0, 1, 2), (0, 1, 1, 2), (0, 0, 2, 2), [0, 0], (0, False), (0, 0, GREAT), (0, 0, "1"), {},
)


def stands(pouring):
    """The runs that stand after each number of entries, and all that were written; None if too many are poured."""
    standing, written, found = [], [], [()]
    for entry, many in enumerate(pouring, start=1):
        if many > len(standing):
            return None
        first = entry
        for _ in range(many):
            first = standing.pop()[0]
        standing.append((first, entry))
        written.append((first, entry))
        found.append(tuple(standing))
    return found, written


def all_pourings(many):
    return [told for told in itertools.product(range(many + 1), repeat=many) if stands(told)]


def some_pourings():
    """All pourings of up to six entries, and longer ones."""
    for many in range(7):
        yield from all_pourings(many)
    for turn in range(8):
        source, pouring, standing = samples.chance("pouring", turn), [], 0
        for _ in range(24):
            pouring.append(source.choice((0, 0, standing, source.randint(0, standing))))
            standing += 1 - pouring[-1]
        yield tuple(pouring)


class Pourings(Case):
    def test_by_hand(self):
        self.gives(POURING, pouring_of, (0, 1, 0, 3, 3))
        self.gives((0, 1, 0, 3, 3), plan_poured, POURING)
        self.gives((2, 2, 1, 2, 1), poured_counts, POURING)
        self.gives(((1, 3), (4, 4)), standing_after, POURING, 4)
        self.gives(((1, 3), (4, 5)), standing_after, POURING, 5)
        self.gives((), standing_after, POURING, 0)
        self.gives((), pouring_of, ())
        self.gives((), plan_poured, ())
        self.gives((), poured_counts, ())
        self.gives((), standing_after, (), 0)
        self.gives((0, 1, 1), pouring_of, (0, 0, 0))
        self.gives((0, 0, 0), pouring_of, (0, 1, 2))

    def test_what_is_one(self):
        for pouring in some_pourings():
            self.gives(True, is_pouring, pouring)
        for thing in NO_POURINGS:
            self.gives(False, is_pouring, thing)
        for many in range(5):
            for thing in itertools.product(range(-1, many + 1), repeat=many):
                self.gives(min(thing, default=0) >= 0 and stands(thing) is not None, is_pouring, thing)
        for thing in samples.ANY:
            right = type(thing) is tuple and all(type(part) is int and part >= 0 for part in thing) and stands(thing) is not None
            self.gives(right, is_pouring, thing)

    def test_there_and_back(self):
        for pouring in some_pourings():
            plan = self.answer(plan_poured, pouring)
            self.assertTrue(plain_lines.is_line_plan(plan), plan)
            self.gives(pouring, pouring_of, plan)
        for bases in line_samples.plans(6, 6, 24):
            pouring = self.answer(pouring_of, bases)
            self.assertIsNotNone(stands(pouring))
            self.gives(bases, plan_poured, pouring)

    def test_one_to_one(self):
        for many in range(7):
            self.same(sorted(pouring_of(bases) for bases in plain_lines.all_plans(many)), all_pourings(many))

    def test_standing_runs(self):
        for pouring in some_pourings():
            found, written = stands(pouring)
            plan = plan_poured(pouring)
            for number, runs in enumerate(found):
                self.gives(runs, standing_after, pouring, number)
                # They are the sheets of the chain.
                line = tuple(range(len(plan)))
                sheets = [plain_stores.sheet(line, plan, v) for v in reversed(plain_stores.chain(plan, number))]
                self.same([tuple(range(first, last + 1)) for first, last in runs], sheets)
                self.same(len(runs), plain_lines.reads(plan)[number])
            counts = tuple(sum(first <= entry <= last for first, last in written) for entry in range(1, len(pouring) + 1))
            self.gives(counts, poured_counts, pouring)
            self.same(counts, plain_lines.writes(plan))

    def test_refusals(self):
        self.refuses_each(pouring_of, ((0, 1, 0),), {"bases": line_samples.NO_PLANS})
        for function in (plan_poured, poured_counts):
            self.refuses_each(function, (POURING,), {"pouring": NO_POURINGS})
        self.refuses_each(standing_after, (POURING, 3), {
            "pouring": NO_POURINGS, "number": (6, 7, GREAT, -1, True, False, None, "1", (1,), [1], ()),
        })
        self.refuses("number", standing_after, (), 1)
