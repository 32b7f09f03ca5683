"""[26] What sheets are worth and what versions give; [G8] for stores."""
from sincemarks.answers import answer_of, sheet_worth
from sincemarks.faults import manner_of
from sincemarks.states import state_of
from tests import plain, plain_stores, samples, store_samples
from tests.cases import Case
from tests.test_states import wrong_changes

SUM, TEXT, PEAK, SET = ("sum",), ("text",), ("peak",), ("set",)
W = (((1,), (2,), (1, 2), (2,)), ((), (0,), (0, 1, 2)))
# Stores of a line of three; version 3 reads what the name tells.
STORES = {
    "order": (((1,), (1, 2), (3,)), ((), (0,), (1,), (1, 2))),
    "once": (((1,), (2,), (1, 3)), ((), (0,), (0, 1), (1, 2))),
    "any": (((1,), (2,), (2, 3)), ((), (0,), (0, 1), (0, 1, 2))),
}
LINE3 = (0, 1, 2)


def changes_for(kind, history, *seed):
    return samples.some_changes(kind, len(history), samples.chance("answers", kind, history, *seed))


class Answers(Case):
    def looked_at(self, kind, history, changes, store):
        """Each version gives its state, or is not served; returns how many are not."""
        unserved = 0
        for version in range(len(history) + 1):
            if plain_stores.is_served(kind, plain_stores.manner_at(history, store, version)):
                want = plain_stores.answer(kind, changes, store, version)
                self.gives(want, answer_of, kind, history, changes, store, version)
                self.same(want, state_of(kind, history, changes, version))
            else:
                unserved += 1
                self.fails("Unserved", (version,), answer_of, kind, history, changes, store, version)
        return unserved

    def test_by_hand(self):
        self.fails("Unserved", (2,), answer_of, SUM, (0, 1), (5, 7), W, 2)
        self.gives(5, answer_of, SUM, (0, 1), (5, 7), W, 1)
        self.gives(0, answer_of, SUM, (0, 1), (5, 7), W, 0)
        self.gives(7, answer_of, PEAK, (0, 1), (5, 7), W, 2)
        self.gives((1, 4), answer_of, SET, (0, 1), ((4,), (1,)), W, 2)
        self.gives("abc", answer_of, TEXT, LINE3, ("a", "b", "c"), STORES["order"], 3)
        self.gives(7, answer_of, SUM, LINE3, (1, 2, 4), STORES["once"], 3)
        self.gives(4, answer_of, PEAK, LINE3, (1, 2, 4), STORES["any"], 3)

    def test_each_kind_by_each_manner(self):
        for word, store in STORES.items():
            self.same(manner_of(LINE3, store), word)
            for kind in samples.NINE:
                changes = changes_for(kind, LINE3, word)
                served = plain_stores.is_served(kind, word)
                if served:
                    want = plain.state(kind, LINE3, changes, 3)
                    self.gives(want, answer_of, kind, LINE3, changes, store, 3)
                else:
                    self.fails("Unserved", (3,), answer_of, kind, LINE3, changes, store, 3)
                # The others read in order, whatever the third one does.
                for version in (0, 1, 2):
                    want = plain.state(kind, LINE3, changes, version)
                    self.gives(want, answer_of, kind, LINE3, changes, store, version)

    def test_unserved_even_where_the_result_would_be_the_state(self):
        for kind in samples.NINE:
            changes = (plain.blank(kind),) * 3
            for word in ("once", "any"):
                if plain_stores.is_served(kind, word):
                    self.gives(changes[0], answer_of, kind, LINE3, changes, STORES[word], 3)
                else:
                    self.fails("Unserved", (3,), answer_of, kind, LINE3, changes, STORES[word], 3)
        # Equal sheets, each read once too often.
        twice = (((1,), (1,)), ((), (0, 1)))
        self.fails("Unserved", (1,), answer_of, SUM, (0,), (0,), twice, 1)
        self.fails("Unserved", (1,), answer_of, TEXT, (0,), ("",), twice, 1)
        self.gives(3, answer_of, PEAK, (0,), (3,), twice, 1)

    def test_sheets_are_put_together_by_their_ends(self):
        # The numbers of the sheets go another way than their ends.
        store = (((4,), (2, 3), (1,), (1, 2)), ((), (2,), (3,), (1, 2), (0, 1, 2)))
        line = (0, 1, 2, 3)
        self.gives("abcd", answer_of, TEXT, line, ("a", "b", "c", "d"), store, 4)
        self.gives("abc", answer_of, TEXT, line, ("a", "b", "c", "d"), store, 3)
        turns = ((1, 0, 2), (0, 2, 1), (1, 2, 0), (2, 1, 0))
        for version in range(5):
            want = plain.state(("turn", 3), line, turns, version)
            self.gives(want, answer_of, ("turn", 3), line, turns, store, version)

    def test_equal_ends(self):
        store = (((1, 3), (2, 3), (3,), (1,), (1, 2)), ((), (3,), (4,), (0, 1, 2)))
        self.gives(9, answer_of, PEAK, LINE3, (9, 2, 4), store, 3)
        self.gives((1, 2, 3), answer_of, SET, LINE3, ((1,), (2,), (3,)), store, 3)
        self.fails("Unserved", (3,), answer_of, SUM, LINE3, (9, 2, 4), store, 3)
        self.fails("Unserved", (3,), answer_of, ("last",), LINE3, ((), (), ()), store, 3)

    def test_right_stores(self):
        unserved = 0
        for history in samples.SMALL[::5] + samples.LARGE[:3] + samples.LARGE[12:14]:
            for store in store_samples.right_stores(history, 1):
                for kind in samples.NINE:
                    unserved += self.looked_at(kind, history, changes_for(kind, history), store)
        self.assertGreater(unserved, 300)

    def test_all_small_stores(self):
        for history in ((0, 0), (0, 1)):
            for store in store_samples.all_stores(history, 2):
                if plain_stores.fault(history, store) is None:
                    for kind in samples.NINE:
                        self.looked_at(kind, history, changes_for(kind, history), store)

    def test_faulty_comes_ahead_of_unserved(self):
        # Version 3 cannot be served, version 4 is at fault.
        store = (((1,), (2,), (2, 3)), ((), (0,), (0, 1), (0, 1, 2), (0, 1)))
        self.fails("Faulty", (4, 3), answer_of, SUM, (0, 1, 2, 3), (1, 1, 1, 1), store, 3)
        self.fails("Faulty", (4, 3), answer_of, SUM, (0, 1, 2, 3), (1, 1, 1, 1), store, 0)
        for history in (samples.WIDE, samples.FORK):
            for store in list(store_samples.faulty_stores(history, 1))[:30]:
                fault = plain_stores.fault(history, store)
                for version in (0, 1, len(history)):
                    for kind in (SUM, PEAK, TEXT):
                        changes = changes_for(kind, history)
                        self.fails("Faulty", fault, answer_of, kind, history, changes, store, version)

    def test_refusals(self):
        history, changes = samples.WIDE, (1, 2, 3, 4)
        store = plain_stores.based(history, (0, 1, 1, 0))
        wrongs = {
            "kind": samples.NO_KINDS, "changes": wrong_changes(SUM, changes),
            "store": store_samples.no_stores(history), "version": samples.no_versions(history),
        }
        self.refuses_each(answer_of, (SUM, history, changes, store, 4), wrongs)
        faulty = (((1,),), ((), (), (), (), ()))
        for bad in samples.no_versions(history):
            self.refuses("version", answer_of, SUM, history, changes, faulty, bad)

    def test_limits(self):
        line, changes = tuple(range(24)), ("abcdefghij" * 4,) * 24
        store = plain_stores.based(line, tuple(range(24)))
        store = (store[0] + ((1, 2),) * 56, store[1])
        self.gives("abcdefghij" * 96, answer_of, TEXT, line, changes, store, 24)
        self.gives(24 * samples.GREAT, answer_of, SUM, line, (samples.GREAT,) * 24, store, 24)


class Worths(Case):
    def test_by_hand(self):
        self.gives("", sheet_worth, TEXT, (), ())
        self.gives("", sheet_worth, TEXT, ("a", "b"), ())
        self.gives("ac", sheet_worth, TEXT, ("a", "b", "c"), (1, 3))
        self.gives(12, sheet_worth, SUM, (5, 1, 7), (1, 3))
        self.gives((1, 0), sheet_worth, ("affine", 7), ((2, 3),), ())

    def test_worths(self):
        for kind in samples.NINE:
            for many in (0, 1, 3, 5):
                changes = samples.some_changes(kind, many, samples.chance("worths", kind, many))
                for sheet in samples.subsets((0,) * many):
                    want = plain.whole(kind, [changes[change - 1] for change in sheet])
                    self.gives(want, sheet_worth, kind, changes, sheet)

    def test_sets_with_a_number_that_there_is_not(self):
        for many in (0, 1, 2, 5, 40):
            for bad in ((0,), (many + 1,), (0, 1), (1, many + 2), (0, many + 1), (samples.GREAT,), (-1,)):
                self.refuses("sheet", sheet_worth, SUM, (7,) * many, bad)

    def test_refusals(self):
        for kind in samples.NINE:
            changes = (plain.blank(kind),) * 3
            bent = [changes[:k] + (wrong,) + changes[k + 1:] for k in range(3) for wrong in (None, True, [], ("x",))]
            wrongs = {
                "kind": samples.NO_KINDS[:12] + (None,), "changes": [list(changes), None, 0, "abc", (None,), *bent],
                "sheet": samples.no_sets((0, 0, 0)),
            }
            self.refuses_each(sheet_worth, (kind, changes, (1, 3)), wrongs)

    def test_limits(self):
        self.gives("ab" * 2500, sheet_worth, TEXT, ("ab",) * 5000, tuple(range(1, 5001, 2)))
