"""Lost sheets: which versions they spoil, and how they are made again."""
from sincemarks.losses import most_spoiled, spoiled_by, worst_lost
from sincemarks.remaking import remade, remake_cost
from sincemarks.sheetfilling import filled
from sincemarks.shifting import rewritten, shifted
from tests import plain, plain_sheets, plain_stores, samples, sheet_samples
from tests.cases import Case
from tests.plain_stores import later
from tests.samples import GREAT, LINE
from tests.sheet_samples import CROSSED, FOUR, FREE, NO_NUMBERS, TWOS
from tests.test_mending import all_small, large_plans

SUM, TEXT, WORDS = ("sum",), ("text",), ("a", "b", "c", "d", "e")


class Losses(Case):
    def test_by_hand(self):
        self.gives((1, 2, 4), spoiled_by, LINE, TWOS, (1, 4))
        self.gives((3, 4, 5), spoiled_by, LINE, TWOS, (3,))
        self.gives((), spoiled_by, LINE, TWOS, ())
        self.gives(3, most_spoiled, LINE, TWOS, 1)
        self.gives((3,), worst_lost, LINE, TWOS, 1)
        self.gives(5, most_spoiled, LINE, TWOS, 9)
        self.gives(0, most_spoiled, LINE, TWOS, 0)
        self.gives((), worst_lost, LINE, TWOS, 0)
        self.gives(2, most_spoiled, LINE, FREE, 2)
        self.gives(0, most_spoiled, (), (), 3)
        self.gives((), worst_lost, (), (), 3)

    def test_spoiled_by(self):
        for history, bases in [*all_small(), *large_plans()]:
            for versions in samples.subsets(history, 4):
                self.gives(plain_sheets.spoiled(history, bases, versions), spoiled_by, history, bases, versions)

    def lost(self, history, bases, many, most):
        worst = self.answer(worst_lost, history, bases, many)
        self.assertIs(type(worst), tuple)
        self.assertTrue(plain.is_set(worst) and set(worst) <= set(later(history)), worst)
        self.assertLessEqual(len(worst), many)
        self.assertEqual(len(plain_sheets.spoiled(history, bases, worst)), most, (history, bases, many))
        self.gives(most, most_spoiled, history, bases, many)

    def test_the_most_of_all_sets(self):
        for history, bases in all_small():
            for many in (*range(len(history) + 2), GREAT):
                self.lost(history, bases, many, plain_sheets.most_spoiled(history, bases, many))

    def test_the_most_of_larger_histories(self):
        for size in (5, 6, 7, 9):
            for turn in range(4):
                history = samples.some_history(size, samples.chance("lost", size, turn))
                for bases in sheet_samples.some_plans(history):
                    for many in (1, 2, 3):
                        self.lost(history, bases, many, plain_sheets.most_spoiled(history, bases, many))

    def test_by_the_full_versions(self):
        for history, bases in large_plans():
            counts = sorted((
                len(plain_sheets.spoiled(history, bases, (v,))) for v in later(history) if bases[v - 1] == 0
            ), reverse=True)
            for many in (0, 1, 2, 5, len(history), len(history) + 1, GREAT):
                self.lost(history, bases, many, sum(counts[:many]))

    def test_refusals(self):
        for history in (FOUR, (0, 1, 1), (0,)):
            bad = sheet_samples.wrongs(SUM, history)
            self.refuses_each(spoiled_by, (history, history, (1,)), {name: bad[name] for name in ("bases", "versions")})
            for function in (most_spoiled, worst_lost):
                self.refuses_each(function, (history, history, 1), {"bases": bad["bases"], "many": NO_NUMBERS})
        for function in (most_spoiled, worst_lost):
            self.refuses("bases", function, FOUR, CROSSED, 1)
        self.refuses("bases", spoiled_by, FOUR, CROSSED, (1,))


class Remaking(Case):
    def test_by_hand(self):
        self.gives((2, 3), remake_cost, LINE, TWOS, (3, 5))
        self.gives((0, 0), remake_cost, LINE, TWOS, ())
        self.gives((5, 3), remake_cost, LINE, TWOS, (1, 2, 3, 4, 5))
        self.gives((5, -2, 10, 1, 5), remade, SUM, LINE, (5, -2, 7, 1, 4), TWOS, (5, -2, 99, 1, 0), (3, 5))
        self.gives(("x", "b", "xbc", "v", "w"), remade, TEXT, LINE, WORDS, TWOS, ("x", "y", "z", "v", "w"), (2, 3))

    def test_costs(self):
        for history, bases in [*all_small(), *large_plans()]:
            for versions in samples.subsets(history, 3):
                self.gives(plain_sheets.cost(history, bases, versions), remake_cost, history, bases, versions)

    def test_lost_sheets_are_right_again(self):
        for kind, history, changes, bases in sheet_samples.told(2):
            right = plain_sheets.filled(kind, history, changes, bases)
            source = samples.chance("lost", kind, history)
            for versions in samples.subsets(history, 2)[-4:]:
                some = [samples.some_change(kind, source) if v in versions else right[v - 1] for v in later(history)]
                self.gives(right, remade, kind, history, changes, bases, tuple(some), versions)

    def test_any_sheets(self):
        for kind, history, changes, bases in sheet_samples.told(2):
            source = samples.chance("remade", kind, history)
            sheets = sheet_samples.some_sheets(kind, history, source)
            for versions in samples.subsets(history, 2)[-4:]:
                want = plain_sheets.remade(kind, history, changes, bases, sheets, versions)
                self.gives(want, remade, kind, history, changes, bases, sheets, versions)
                some = [samples.some_change(kind, source) if v in versions else sheets[v - 1] for v in later(history)]
                self.gives(want, remade, kind, history, changes, bases, tuple(some), versions)

    def test_all_small(self):
        for history, bases in all_small():
            changes, sheets = WORDS[:len(history)], ("p", "q", "r", "s")[:len(history)]
            for versions in samples.subsets(history):
                want = plain_sheets.remade(TEXT, history, changes, bases, sheets, versions)
                self.gives(want, remade, TEXT, history, changes, bases, sheets, versions)

    def test_refusals(self):
        for history in (FOUR, (0, 1, 1), (0,)):
            bad = sheet_samples.wrongs(SUM, history)
            self.refuses_each(remake_cost, (history, history, (1,)), {name: bad[name] for name in ("bases", "versions")})
        for kind in samples.NINE:
            changes = samples.some_changes(kind, 4, samples.chance("remade", kind))
            bad = sheet_samples.wrongs(kind, FOUR)
            self.refuses_each(remade, (kind, FOUR, changes, FOUR, changes, (2, 3)), {
                name: bad[name] for name in ("kind", "changes", "bases", "sheets", "versions")
            })
        self.refuses("sheets", remade, SUM, (0, 1), (1, 2), (0, 1), (1, None), (2,))
        self.refuses("bases", remake_cost, FOUR, CROSSED, (1,))


class Shifting(Case):
    def test_by_hand(self):
        self.gives((2, 4, 5), rewritten, LINE, TWOS, FREE)
        self.gives((), rewritten, LINE, TWOS, TWOS)
        self.gives(("a", "ab"), shifted, TEXT, (0, 1), ("a", "b"), (0, 1), ("a", "b"), (0, 0))
        self.gives(("x", "xb"), shifted, TEXT, (0, 1), ("a", "b"), (0, 1), ("x", "y"), (0, 0))
        self.gives(("x", "y"), shifted, TEXT, (0, 1), ("a", "b"), (0, 1), ("x", "y"), (0, 1))

    def test_each_pair_of_plans(self):
        for history in samples.SMALL:
            changes, sheets = WORDS[:len(history)], ("p", "q", "r", "s")[:len(history)]
            plans = plain_sheets.all_plans(history)
            for one in plans:
                right = plain_sheets.filled(TEXT, history, changes, one)
                for other in plans[::1 + (len(plans) > 20)]:
                    versions = plain_sheets.rewritten(one, other)
                    self.gives(versions, rewritten, history, one, other)
                    want = plain_sheets.filled(TEXT, history, changes, other)
                    self.gives(want, shifted, TEXT, history, changes, one, right, other)
                    want = plain_sheets.remade(TEXT, history, changes, other, sheets, versions)
                    self.gives(want, shifted, TEXT, history, changes, one, sheets, other)

    def test_there_and_back(self):
        for kind, history, changes, one in sheet_samples.told(2):
            right = filled(kind, history, changes, one)
            for other in sheet_samples.some_plans(history):
                self.gives(plain_sheets.rewritten(one, other), rewritten, history, one, other)
                there = self.answer(shifted, kind, history, changes, one, right, other)
                self.same(there, plain_sheets.filled(kind, history, changes, other))
                self.gives(right, shifted, kind, history, changes, other, there, one)

    def test_the_other_sheets_hold_the_same_changes(self):
        for history, one in large_plans(2):
            for other in sheet_samples.some_plans(history):
                there = rewritten(history, one, other)
                for version in set(later(history)) - set(there):
                    self.same(plain_stores.sheet(history, one, version), plain_stores.sheet(history, other, version))

    def test_refusals(self):
        for history in (FOUR, (0, 1, 1), (0,)):
            bad = sheet_samples.wrongs(SUM, history)
            self.refuses_each(rewritten, (history, history, history), {name: bad[name] for name in ("one", "other")})
        for kind in samples.NINE:
            changes = samples.some_changes(kind, 4, samples.chance("shifted", kind))
            bad = sheet_samples.wrongs(kind, FOUR)
            self.refuses_each(shifted, (kind, FOUR, changes, FOUR, changes, (0, 0, 0, 0)), {
                name: bad[name] for name in ("kind", "changes", "one", "sheets", "other")
            })
        self.refuses("one", rewritten, FOUR, CROSSED, CROSSED)
        self.refuses("other", rewritten, FOUR, FOUR, CROSSED)
        self.refuses("one", shifted, SUM, FOUR, (1, 2, 3, 4), CROSSED, (1, 2, 3, 4), FOUR)
        self.refuses("other", shifted, SUM, FOUR, (1, 2, 3, 4), FOUR, (1, 2, 3, 4), CROSSED)
