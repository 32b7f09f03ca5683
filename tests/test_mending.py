"""Pieces of sheets, sheets made, and changes put right."""
from sincemarks.mending import mend_cost, mend_order, mended
from sincemarks.sheetfilling import filled
from sincemarks.sheetpieces import made_sheet, pieces_of
from tests import plain_sheets, samples, sheet_samples
from tests.cases import Case
from tests.plain_stores import later
from tests.sheet_samples import CROSSED, FOUR, TWOS
from tests.samples import LINE

SUM, TEXT, WORDS = ("sum",), ("text",), ("a", "b", "c", "d", "e")


def all_small():
    """All plans of small histories."""
    for history in samples.SMALL:
        for bases in plain_sheets.all_plans(history):
            yield history, bases


def large_plans(step=1):
    for history in samples.LARGE[::step]:
        for bases in list(sheet_samples.some_plans(history))[::2]:
            yield history, bases


def some_versions(history, few=3):
    versions = list(later(history))
    return versions if len(versions) <= 5 else samples.chance("versions", history).sample(versions, few)


class Pieces(Case):
    def test_by_hand(self):
        self.gives((1, 2), pieces_of, LINE, TWOS, 3)
        self.gives((4,), pieces_of, LINE, TWOS, 5)
        self.gives((), pieces_of, LINE, TWOS, 4)
        self.gives((), pieces_of, LINE, TWOS, 1)
        self.gives((1, 2), pieces_of, (0, 1, 2), (0, 1, 0), 3)
        self.gives((2,), pieces_of, (0, 1, 2), (0, 0, 0), 3)
        self.gives((1,), pieces_of, (0, 1, 1), (0, 1, 0), 3)

    def test_each_plan(self):
        for history, bases in [*all_small(), *large_plans()]:
            for version in some_versions(history, 6):
                want = plain_sheets.pieces(history, bases, version)
                self.gives(want, pieces_of, history, bases, version)
                self.assertTrue(all(piece < version for piece in want))

    def test_together_with_the_change_they_are_the_sheet(self):
        for history, bases in all_small():
            changes = WORDS[:len(history)]
            sheets = filled(TEXT, history, changes, bases)
            for version in later(history):
                parts = [sheets[piece - 1] for piece in pieces_of(history, bases, version)]
                self.same("".join(parts) + changes[version - 1], sheets[version - 1])

    def test_made_by_hand(self):
        self.gives("xyc", made_sheet, TEXT, LINE, WORDS, TWOS, ("x", "y", "", "", ""), 3)
        self.gives("xyc", made_sheet, TEXT, LINE, WORDS, TWOS, ("x", "y", "qq", "z", "z"), 3)
        self.gives("b", made_sheet, TEXT, LINE, WORDS, TWOS, ("x", "y", "qq", "z", "z"), 2)
        self.gives("ze", made_sheet, TEXT, LINE, WORDS, TWOS, ("x", "y", "qq", "z", "z"), 5)

    def test_made_of_right_sheets(self):
        for kind, history, changes, bases in sheet_samples.told(2):
            sheets = plain_sheets.filled(kind, history, changes, bases)
            for version in some_versions(history):
                self.gives(sheets[version - 1], made_sheet, kind, history, changes, bases, sheets, version)

    def test_made_of_any_sheets(self):
        for kind, history, changes, bases in sheet_samples.told(2):
            source = samples.chance("made", kind, history)
            sheets = sheet_samples.some_sheets(kind, history, source)
            for version in some_versions(history):
                want = plain_sheets.made(kind, history, changes, bases, sheets, version)
                self.gives(want, made_sheet, kind, history, changes, bases, sheets, version)
                # What stands in the version's own place has no effect.
                own = samples.some_change(kind, source)
                other = sheets[:version - 1] + (own,) + sheets[version:]
                self.gives(want, made_sheet, kind, history, changes, bases, other, version)

    def test_refusals(self):
        for history in (FOUR, (0, 1, 1), (0,)):
            bad = sheet_samples.wrongs(SUM, history)
            self.refuses_each(pieces_of, (history, history, 1), {name: bad[name] for name in ("bases", "version")})
        for kind in samples.NINE:
            changes = samples.some_changes(kind, 4, samples.chance("made", kind))
            bad = sheet_samples.wrongs(kind, FOUR)
            self.refuses_each(made_sheet, (kind, FOUR, changes, FOUR, changes, 2), {
                name: bad[name] for name in ("kind", "changes", "bases", "sheets", "version")
            })
        self.refuses("bases", pieces_of, FOUR, CROSSED, 1)
        self.refuses("sheets", made_sheet, SUM, (0, 1), (1, 2), (0, 1), (1, None), 2)
        self.refuses("sheets", made_sheet, SUM, (0, 1), (1, 2), (0, 1), (1, True), 2)


class Mending(Case):
    def test_by_hand(self):
        self.gives((4, 5), mend_order, LINE, TWOS, 4)
        self.gives((2, 1), mend_cost, LINE, TWOS, 4)
        self.gives((1, 3), mend_order, LINE, TWOS, 1)
        self.gives((2, 2), mend_cost, LINE, TWOS, 1)
        self.gives((1, 0), mend_cost, (0,), (0,), 1)
        want = ((5, -2, 7, 10, 4), (5, -2, 10, 10, 14))
        self.gives(want, mended, SUM, LINE, (5, -2, 7, 1, 4), TWOS, (5, -2, 10, 1, 5), 4, 10)
        # Not right: the holders of 1 are made one by one, of the sheets as they then are.
        want = (("q", "b", "c", "d", "e"), ("q", "y", "qyc", "v", "w"))
        self.gives(want, mended, TEXT, LINE, WORDS, TWOS, ("x", "y", "z", "v", "w"), 1, "q")

    def test_order_and_cost(self):
        for history, bases in [*all_small(), *large_plans()]:
            for version in some_versions(history, 6):
                holders = plain_sheets.holders(history, bases, version)
                self.gives(holders, mend_order, history, bases, version)
                self.gives(plain_sheets.cost(history, bases, holders), mend_cost, history, bases, version)

    def test_right_sheets_are_right_again(self):
        for kind, history, changes, bases in sheet_samples.told(2):
            sheets = plain_sheets.filled(kind, history, changes, bases)
            source = samples.chance("put", kind, history)
            for version in some_versions(history):
                change = samples.some_change(kind, source)
                put = changes[:version - 1] + (change,) + changes[version:]
                want = (put, plain_sheets.filled(kind, history, put, bases))
                self.gives(want, mended, kind, history, changes, bases, sheets, version, change)

    def test_any_sheets(self):
        for kind, history, changes, bases in sheet_samples.told(2):
            source = samples.chance("mended", kind, history)
            sheets = sheet_samples.some_sheets(kind, history, source)
            for version in some_versions(history):
                for change in (samples.some_change(kind, source), changes[version - 1]):
                    want = plain_sheets.mended(kind, history, changes, bases, sheets, version, change)
                    self.gives(want, mended, kind, history, changes, bases, sheets, version, change)

    def test_all_small(self):
        for history, bases in all_small():
            changes, sheets = WORDS[:len(history)], ("p", "q", "r", "s")[:len(history)]
            for version in later(history):
                want = plain_sheets.mended(TEXT, history, changes, bases, sheets, version, "new")
                self.gives(want, mended, TEXT, history, changes, bases, sheets, version, "new")

    def test_only_the_holders_are_written(self):
        for history, bases in large_plans(2):
            sheets = tuple(range(1000, 1000 + len(history)))
            changes = tuple(range(len(history)))
            for version in some_versions(history):
                _, then = mended(SUM, history, changes, bases, sheets, version, 7)
                holders = mend_order(history, bases, version)
                self.same([sheets[v - 1] for v in later(history) if v not in holders],
                          [then[v - 1] for v in later(history) if v not in holders])

    def test_refusals(self):
        for history in (FOUR, (0, 1, 1), (0,)):
            bad = sheet_samples.wrongs(SUM, history)
            for function in (mend_order, mend_cost):
                self.refuses_each(function, (history, history, 1), {name: bad[name] for name in ("bases", "version")})
        for kind in samples.NINE:
            changes = samples.some_changes(kind, 4, samples.chance("mended", kind))
            bad = sheet_samples.wrongs(kind, FOUR)
            self.refuses_each(mended, (kind, FOUR, changes, FOUR, changes, 2, changes[0]), {
                name: bad[name] for name in ("kind", "changes", "bases", "sheets", "version", "change")
            })
        for function in (mend_order, mend_cost):
            self.refuses("bases", function, FOUR, CROSSED, 1)
