"""Sheets as plans fill them, their checker, and what versions are given from them."""
from sincemarks.answers import answer_of
from sincemarks.asking import asked, asked_all
from sincemarks.chains import store_by
from sincemarks.sheetchecker import lets_sheets
from sincemarks.sheetfilling import filled
from sincemarks.states import state_of, states_of
from tests import plain, plain_sheets, plain_stores, samples, sheet_samples
from tests.cases import Case, exactly
from tests.sheet_samples import CROSSED, FOUR, TWOS
from tests.samples import LINE

SUM, TEXT = ("sum",), ("text",)


def as_bools(thing):
    """The same with True and False for 1 and 0, which Python does not tell apart."""
    if isinstance(thing, tuple):
        return tuple(as_bools(part) for part in thing)
    return bool(thing) if thing in (0, 1) and type(thing) is int else thing


def as_lists(thing):
    return [as_lists(part) for part in thing] if isinstance(thing, tuple) else thing


class Filling(Case):
    def test_by_hand(self):
        self.gives((5, -2, 10, 1, 5), filled, SUM, LINE, (5, -2, 7, 1, 4), TWOS)
        self.gives(("a", "ab", "ac"), filled, TEXT, (0, 1, 1), ("a", "b", "c"), (0, 0, 0))
        self.gives(("a", "b", "bc"), filled, TEXT, (0, 1, 2), ("a", "b", "c"), (0, 1, 1))
        self.gives((), filled, TEXT, (), (), ())
        self.gives(((0, ""), (2, "b")), filled, ("tail",), (0, 1), ((0, ""), (2, "b")), (0, 0))

    def test_any(self):
        for kind, history, changes, bases in sheet_samples.told():
            self.gives(plain_sheets.filled(kind, history, changes, bases), filled, kind, history, changes, bases)

    def test_each_plan_of_small_histories(self):
        for history in samples.SMALL:
            changes = ("a", "b", "c", "d")[:len(history)]
            for bases in plain_sheets.all_plans(history):
                want = plain_sheets.filled(TEXT, history, changes, bases)
                self.gives(want, filled, TEXT, history, changes, bases)

    def test_bases_that_are_parents_and_bases_that_are_nought(self):
        for kind, history, changes, _ in sheet_samples.told(2):
            self.gives(changes, filled, kind, history, changes, history)
            self.gives(states_of(kind, history, changes)[1:], filled, kind, history, changes, (0,) * len(history))

    def test_refusals(self):
        for kind in samples.NINE:
            for history in (FOUR, (0, 1, 1), (0,)):
                changes = samples.some_changes(kind, len(history), samples.chance("filled", kind))
                self.refuses_each(filled, (kind, history, changes, history), {
                    name: sheet_samples.wrongs(kind, history)[name] for name in ("kind", "changes", "bases")
                })
        self.refuses("bases", filled, SUM, FOUR, (1, 2, 3, 4), CROSSED)
        self.refuses("changes", filled, SUM, FOUR, ("a", "b", "c", "d"), FOUR)


class Checker(Case):
    def looked_at(self, kind, history, changes, bases, thing):
        want = plain_sheets.filled(kind, history, changes, bases)
        if type(thing) is not tuple or len(thing) != len(history):
            fault = ("shape", -1)
        else:
            wrong = [k for k, sheet in enumerate(thing) if not exactly(sheet, want[k])]
            fault = ("sheet", wrong[0]) if wrong else None
        if fault is None:
            self.gives(len(history), lets_sheets, kind, history, changes, bases, thing)
        else:
            self.fails("InvalidPaper", fault, lets_sheets, kind, history, changes, bases, thing)

    def test_by_hand(self):
        self.gives(2, lets_sheets, SUM, (0, 1), (5, 1), (0, 0), (5, 6))
        self.fails("InvalidPaper", ("sheet", 1), lets_sheets, SUM, (0, 1), (1, 1), (0, 1), (1, True))
        self.fails("InvalidPaper", ("sheet", 0), lets_sheets, SUM, (0, 1), (1, 1), (0, 1), (True, 7))
        self.gives(0, lets_sheets, SUM, (), (), (), ())
        self.fails("InvalidPaper", ("shape", -1), lets_sheets, SUM, (), (), (), (0,))
        self.fails("InvalidPaper", ("shape", -1), lets_sheets, SUM, (), (), (), [])

    def test_any(self):
        for kind, history, changes, bases in sheet_samples.told(2):
            right = plain_sheets.filled(kind, history, changes, bases)
            source = samples.chance("bent", kind, history)
            for thing in (
                right, list(right), right + right[:1], right[1:], right + (plain.blank(kind),), None, True, 0, "", (), (right,),
                as_bools(right), as_lists(right), tuple(as_lists(part) for part in right), changes,
                samples.some_changes(kind, len(history), source),
            ):
                self.looked_at(kind, history, changes, bases, thing)
            for k in source.sample(range(len(right)), min(len(right), 3)):
                bad = source.choice(sheet_samples.no_change(kind))
                for other in (
                    samples.some_change(kind, source), bad, None, as_bools(right[k]), as_lists(right[k]), (right[k],),
                ):
                    bent = right[:k] + (other,) + right[k + 1:]
                    self.looked_at(kind, history, changes, bases, bent)
                    # Of two faults the first one is told.
                    self.looked_at(kind, history, changes, bases, bent[:-1] + (None,))

    def test_true_is_not_one(self):
        for kind, changes in (
            (SUM, (1, 0)), (("peak",), (1, 0)), (("set",), ((0, 1), (1,))), (("last",), (((0, 1),), ((1, 0),))),
            (("affine", 7), ((1, 0), (0, 1))), (("square", 7), ((1, 0, 0, 1), (0, 1, 1, 0))), (("turn", 2), ((1, 0), (0, 1))),
            (("tail",), ((1, ""), (0, "a"))),
        ):
            self.gives(2, lets_sheets, kind, (0, 0), changes, (0, 0), changes)
            for k in range(2):
                thing = tuple(as_bools(part) if place == k else part for place, part in enumerate(changes))
                self.fails("InvalidPaper", ("sheet", k), lets_sheets, kind, (0, 0), changes, (0, 0), thing)

    def test_odd_things(self):
        for thing in samples.ANY:
            self.looked_at(SUM, (0, 1), (1, 2), (0, 1), thing)
            self.looked_at(SUM, (0, 1), (1, 2), (0, 1), (1, thing))

    def test_refusals(self):
        for kind in samples.NINE:
            changes = samples.some_changes(kind, 4, samples.chance("checked", kind))
            right = plain_sheets.filled(kind, FOUR, changes, FOUR)
            self.refuses_each(lets_sheets, (kind, FOUR, changes, FOUR, right), {
                name: sheet_samples.wrongs(kind, FOUR)[name] for name in ("kind", "changes", "bases")
            })
            self.refuses("bases", lets_sheets, kind, FOUR, changes, CROSSED, None)


class Asking(Case):
    def test_by_hand(self):
        self.gives("ab", asked, TEXT, (0, 1), (0, 1), ("a", "b"), 2)
        self.gives("b", asked, TEXT, (0, 1), (0, 0), ("a", "b"), 2)
        self.gives("", asked, TEXT, (0, 1), (0, 0), ("a", "b"), 0)
        self.gives((0, 5, 3, 10, 11, 15), asked_all, SUM, LINE, TWOS, (5, -2, 10, 1, 5))
        self.gives((0,), asked_all, SUM, (), (), ())
        self.gives(("", "x", "xy", "", "z", ""), asked_all, TEXT, LINE, TWOS, ("x", "y", "", "z", ""))

    def test_right_sheets_give_the_states(self):
        for kind, history, changes, bases in sheet_samples.told():
            sheets = plain_sheets.filled(kind, history, changes, bases)
            states = tuple(plain.state(kind, history, changes, version) for version in range(len(history) + 1))
            self.gives(states, asked_all, kind, history, bases, sheets)
            for version in {0, len(history), len(history) // 2}:
                self.gives(states[version], asked, kind, history, bases, sheets, version)

    def test_each_plan_gives_the_states_as_its_store_does(self):
        for history in samples.SMALL:
            changes = ("ab", "c", "d", "ef")[:len(history)]
            for bases in plain_sheets.all_plans(history):
                sheets = filled(TEXT, history, changes, bases)
                for version in range(len(history) + 1):
                    state = state_of(TEXT, history, changes, version)
                    self.gives(state, asked, TEXT, history, bases, sheets, version)
                    self.same(answer_of(TEXT, history, changes, store_by(history, bases), version), state)

    def test_sheets_that_are_not_right(self):
        for kind, history, changes, bases in sheet_samples.told(2):
            sheets = sheet_samples.some_sheets(kind, history, samples.chance("any sheets", kind, history))
            want = tuple(plain_sheets.asked(kind, bases, sheets, version) for version in range(len(history) + 1))
            self.gives(want, asked_all, kind, history, bases, sheets)
            for version in {0, len(history), (len(history) + 1) // 2}:
                self.gives(want[version], asked, kind, history, bases, sheets, version)

    def test_refusals(self):
        for kind in samples.NINE:
            for history in (FOUR, (0,)):
                sheets = samples.some_changes(kind, len(history), samples.chance("asked", kind))
                bad = sheet_samples.wrongs(kind, history) | {"version": samples.no_versions(history)}
                wrongs = {name: bad[name] for name in ("kind", "bases", "sheets", "version")}
                self.refuses_each(asked, (kind, history, history, sheets, 1), wrongs)
                del wrongs["version"]
                self.refuses_each(asked_all, (kind, history, history, sheets), wrongs)
        self.refuses("bases", asked, SUM, FOUR, CROSSED, (1, 2, 3, 4), 1)
        self.refuses("bases", asked_all, SUM, FOUR, CROSSED, (1, 2, 3, 4))

    def test_forty(self):
        for history in (tuple(range(40)), (0,) * 40, tuple(k // 3 for k in range(40)), tuple(k // 2 for k in range(40))):
            for kind in samples.NINE:
                changes = samples.some_changes(kind, 40, samples.chance("forty sheets", kind))
                for bases in list(sheet_samples.some_plans(history))[::2]:
                    sheets = self.answer(filled, kind, history, changes, bases)
                    self.gives(states_of(kind, history, changes), asked_all, kind, history, bases, sheets)
                    self.gives(40, lets_sheets, kind, history, changes, bases, sheets)
        great = (samples.GREAT,) * 40
        self.gives(40 * samples.GREAT, asked, SUM, tuple(range(40)), (0,) * 40, filled(SUM, tuple(range(40)), great, (0,) * 40), 40)
        self.assertTrue(plain_stores.is_plan(FOUR, FOUR))
