"""[22] Histories with their changes, as objects."""
from sincemarks.errors import MarkError
from sincemarks.historyclasses import Numbers, Told
from sincemarks.storeclasses import Store
from tests import plain, samples
from tests.cases import Case
from tests.samples import GREAT
from tests.test_states import version_pairs, wrong_changes

SUM, TEXT = ("sum",), ("text",)


def told_books(histories=None):
    """Kinds with histories and changes of all sorts."""
    for kind in samples.NINE:
        for history in histories or samples.SMALL[::4] + samples.LARGE[:3]:
            source = samples.chance("told", kind, history)
            yield kind, history, samples.some_changes(kind, len(history), source)


def number_books():
    for history in samples.SMALL[::2] + samples.LARGE[:3] + samples.LARGE[12:]:
        source = samples.chance("numbers", history)
        yield history, samples.some_changes(SUM, len(history), source)
        yield history, tuple(source.choice((-1, 0, 1)) for _ in history)


def made(kind, history, changes):
    """The object, a Numbers where it may be one."""
    return Numbers(history, changes) if kind == SUM else Told(kind, history, changes)


class Books(Case):
    def is_told(self, book, kind, history, changes):
        """The book is a Told, no Numbers, that tells this."""
        self.assertIs(type(book), Told)
        self.gives((kind, history, changes), book.told)
        self.same(len(book), len(history))

    def test_told_and_length(self):
        for kind, history, changes in told_books():
            self.is_told(self.answer(Told, kind, history, changes), kind, history, changes)
        for history, changes in number_books():
            book = self.answer(Numbers, history, changes)
            self.assertIsInstance(book, Told)
            self.gives((SUM, history, changes), book.told)
            self.same(len(book), len(history))
        self.same([len(Told(TEXT, (), ())), len(Numbers((), ())), len(Numbers((0, 0), (1, 1)))], [0, 0, 2])

    def test_states(self):
        for kind, history, changes in told_books():
            for book in (Told(kind, history, changes), made(kind, history, changes)):
                for version in range(len(history) + 1):
                    self.gives(plain.state(kind, history, changes, version), book.state, version)

    def test_ways(self):
        for kind, history, changes in told_books():
            book = made(kind, history, changes)
            for one, other in version_pairs(history):
                meet = plain.meet(history, one, other)
                self.gives(plain.way(kind, history, changes, meet, other), book.taken, one, other)
                if meet == one:
                    self.gives(plain.way(kind, history, changes, one, other), book.way, one, other)
                else:
                    self.refuses("other", book.way, one, other)

    def test_left(self):
        for kind, history, changes in told_books():
            book = made(kind, history, changes)
            for versions in samples.subsets(history, 4)[:16]:
                left = self.answer(book.left, versions)
                ways = tuple(
                    plain.way(kind, history, changes, plain.left_parent(history, versions, version), version)
                    for version in versions
                )
                self.is_told(left, kind, plain.left_on(history, versions), ways)
                for place, version in enumerate((0, *versions)):
                    self.same(left.state(place), book.state(version))

    def test_put(self):
        for kind, history, changes in told_books():
            book = made(kind, history, changes)
            for version in range(len(history) + 1):
                change = samples.some_change(kind, samples.chance("put", kind, history, version))
                more = self.answer(book.put, version, change)
                self.is_told(more, kind, history + (version,), changes + (change,))
                state = plain.then(kind, book.state(version), change)
                self.gives(state, more.state, len(history) + 1)
            self.same(book.told(), (kind, history, changes))

    def test_hung(self):
        for kind, history, changes in told_books(samples.SMALL[::9] + samples.LARGE[:3]):
            book = made(kind, history, changes)
            for other_history in ((), (0,), (0, 0, 1), samples.WIDE):
                more = samples.some_changes(kind, len(other_history), samples.chance("hung", kind, other_history))
                for other in (Told(kind, other_history, more), made(kind, other_history, more)):
                    for version in range(0, len(history) + 1, 2):
                        want = plain.hung(history, version, other_history)
                        self.is_told(self.answer(book.hung, version, other), kind, want, changes + more)

    def test_hung_below_itself(self):
        book = Numbers((0, 1), (5, 7))
        self.is_told(book.hung(2, book), SUM, (0, 1, 2, 3), (5, 7, 5, 7))
        self.is_told(book.hung(0, book), SUM, (0, 1, 0, 3), (5, 7, 5, 7))

    def test_by_hand(self):
        book = Told(TEXT, samples.WIDE, ("a", "b", "c", "d"))
        self.gives("ab", book.state, 2)
        self.gives("c", book.taken, 2, 3)
        self.gives("d", book.way, 1, 4)
        self.is_told(book.left((2, 4)), TEXT, (0, 0), ("ab", "ad"))
        self.is_told(book.put(3, "z"), TEXT, (0, 1, 1, 1, 3), ("a", "b", "c", "d", "z"))
        other = Told(TEXT, (0, 1), ("x", "y"))
        self.is_told(book.hung(2, other), TEXT, (0, 1, 1, 1, 2, 5), ("a", "b", "c", "d", "x", "y"))
        self.is_told(other.hung(0, book), TEXT, (0, 1, 0, 3, 3, 3), ("x", "y", "a", "b", "c", "d"))

    def test_limits(self):
        line, wide = tuple(range(40)), (0,) * 20
        for kind in samples.NINE:
            changes = samples.some_changes(kind, 40, samples.chance("forty", kind))
            book = self.answer(Told, kind, line, changes)
            self.gives(plain.state(kind, line, changes, 40), book.state, 40)
            half = Told(kind, wide, changes[:20])
            self.is_told(half.hung(20, half), kind, wide + (20,) * 20, changes[:20] * 2)
            self.is_told(book.left(tuple(range(1, 40))).put(0, changes[0]), kind, line[:39] + (0,),
                         changes[:39] + changes[:1])


class Equality(Case):
    def alike(self, one, other, want):
        self.same([one == other, other == one, one != other, other != one], [want, want, not want, not want])

    def test_equal(self):
        for kind, history, changes in told_books():
            self.alike(Told(kind, history, changes), Told(kind, history, changes), True)
            self.alike(made(kind, history, changes), Told(kind, history, changes), True)
        for history, changes in number_books():
            self.alike(Numbers(history, changes), Numbers(history, changes), True)
            self.alike(Numbers(history, changes), Numbers(history, changes).left(tuple(range(1, len(history) + 1))),
                       True)

    def test_unlike_in_one(self):
        book = Told(("set",), (0, 1), ((), ()))
        self.alike(book, Told(("last",), (0, 1), ((), ())), False)
        self.alike(book, Told(("set",), (0, 0), ((), ())), False)
        self.alike(book, Told(("set",), (0, 1), ((), (0,))), False)
        self.alike(book, Told(("set",), (0,), ((),)), False)
        self.alike(Told(("affine", 7), (0,), ((1, 0),)), Told(("affine", 8), (0,), ((1, 0),)), False)
        self.alike(Told(("peak",), (0,), (5,)), Numbers((0,), (5,)), False)
        self.alike(Told(("peak",), (), ()), Numbers((), ()), False)
        self.alike(Numbers((0, 1), (5, 7)), Numbers((0, 0), (5, 7)), False)
        self.alike(Numbers((0, 1), (5, 7)), Numbers((0, 1), (5, 8)), False)

    def test_nothing_else(self):
        for book in (Told(SUM, (0, 1), (5, 7)), Numbers((0, 1), (5, 7)), Numbers((), ()), Told(("set",), (), ())):
            store = Store((0, 1), (), ((), (), ()))
            for thing in (None, True, 0, (), [], "", book.told(), list(book.told()), (0, 1), store, object(), SUM):
                self.alike(book, thing, False)


class Refusals(Case):
    def test_construction(self):
        for kind in samples.NINE:
            for history in ((), (0,), samples.WIDE):
                changes = samples.some_changes(kind, len(history), samples.chance("made", kind, history))
                wrongs = {
                    "kind": samples.NO_KINDS[::3], "history": samples.NO_HISTORIES,
                    "changes": wrong_changes(kind, changes),
                }
                self.refuses_each(Told, (kind, history, changes), wrongs)
                if kind == SUM:
                    self.refuses_each(Numbers, (history, changes), wrongs)

    def test_methods(self):
        for book in (Told(TEXT, samples.WIDE, ("a", "b", "c", "d")), Numbers(samples.WIDE, (1, 2, 3, 4))):
            before = book.told()
            bad = samples.no_versions(samples.WIDE)
            others = [
                None, True, 0, (), "", book.told(), Told(("peak",), (0,), (1,)), Told(("set",), (), ()), Numbers,
                Store((), (), ((),)), Told(("affine", 7), (0,), ((1, 0),)), [book], object(),
            ]
            others += [Numbers((0,), (1,))] if book.told()[0] == TEXT else [Told(TEXT, (), ())]
            bad_changes = [None, True, [], (None,), ("a",), "A", ((),)] + ([1] if before[0] == TEXT else ["a"])
            self.refuses_each(book.state, (1,), {"version": bad})
            self.refuses_each(book.way, (1, 2), {"one": bad, "other": bad})
            self.refuses_each(book.taken, (1, 2), {"one": bad, "other": bad})
            self.refuses_each(book.left, ((1, 2),), {"versions": samples.no_sets(samples.WIDE)})
            good = before[2][0]
            self.refuses_each(book.put, (1, good), {"version": bad, "change": bad_changes})
            self.same(book.told(), before)
            for wrong in others:
                for version in (0, 4):
                    with self.assertRaises(MarkError) as caught:
                        book.hung(version, wrong)
                    self.same((caught.exception.word, caught.exception.at), ("other", -1))
                with self.assertRaises(MarkError) as caught:
                    book.hung(other=wrong, version=5)
                self.same(caught.exception.word, "version")
            self.refuses_each(book.hung, (1, book), {"version": bad})
            self.same(book.told(), before)

    def test_put_with_a_change_of_another_kind(self):
        for kind in samples.NINE:
            for other in samples.NINE:
                for change in samples.changes_of(other):
                    book = Told(kind, (0,), (plain.blank(kind),))
                    if plain.is_change(kind, change):
                        self.same(book.put(1, change).told()[2][1], change)
                    else:
                        self.refuses("change", book.put, 1, change)
                        self.refuses("version", book.put, 2, change)

    def test_numbers(self):
        book = Numbers(samples.WIDE, (1, 2, 3, 4))
        bad = samples.no_versions(samples.WIDE)
        self.refuses_each(book.gain, (2, 3), {"one": bad, "other": bad})


class Counts(Case):
    def test_by_hand(self):
        book = Numbers((0, 1, 1), (4, -6, 3))
        self.gives((3, 7), book.highest)
        self.gives((2, -2), book.lowest)
        self.gives(9, book.gain, 2, 3)
        self.gives(-9, book.gain, 3, 2)
        self.gives(7, book.gain, 0, 3)
        self.same(book.left((2, 3)).told(), (SUM, (0, 0), (-2, 7)))

    def test_the_first_version_counts(self):
        self.gives((0, 0), Numbers((), ()).highest)
        self.gives((0, 0), Numbers((), ()).lowest)
        self.gives((0, 0), Numbers((0, 1), (-1, -1)).highest)
        self.gives((0, 0), Numbers((0, 1), (1, 1)).lowest)

    def test_of_several_the_least_version(self):
        self.gives((0, 0), Numbers((0, 1, 2), (0, 0, 0)).highest)
        self.gives((0, 0), Numbers((0, 1, 2), (0, 0, 0)).lowest)
        book = Numbers((0, 0, 1, 2, 4), (5, 5, -9, -9, 9))
        self.gives((1, 5), book.highest)
        self.gives((3, -4), book.lowest)
        self.gives((2, 3), Numbers((0, 1, 0), (1, 2, 3)).highest)
        self.gives((2, -3), Numbers((0, 1, 0), (-1, -2, -3)).lowest)

    def test_plain_counts(self):
        for history, changes in number_books():
            book = Numbers(history, changes)
            states = [sum(changes[v - 1] for v in plain.path(history, at)) for at in range(len(history) + 1)]
            for one, other in version_pairs(history)[:40]:
                self.gives(states[other] - states[one], book.gain, one, other)
            for method, greatest in ((book.highest, max(states)), (book.lowest, min(states))):
                least = next(version for version, state in enumerate(states) if state == greatest)
                self.gives((least, greatest), method)

    def test_great_numbers(self):
        book = Numbers(tuple(range(40)), (GREAT,) * 40)
        self.gives((40, 40 * GREAT), book.highest)
        self.gives((0, 0), book.lowest)
        self.gives(-39 * GREAT, book.gain, 40, 1)
