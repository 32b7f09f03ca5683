"""[42] Histories with bounds that can be kept, as objects."""
from sincemarks.boundclasses import Kept, Level
from sincemarks.chains import store_by
from sincemarks.errors import MarkError, NotUsable, Unkept
from sincemarks.historyclasses import Told
from sincemarks.storeclasses import Based
from tests import bound_samples, plain_bounds, plain_stores, samples, store_samples
from tests.cases import Case

LEVEL = plain_bounds.level(samples.LINE, 2, 2)
SHORT, TIGHT = (0, 1), (2, ((1, 2), (1, 1)))


def kept_bounds(step=1):
    """Histories with bounds that can be kept."""
    for history in samples.SMALL[::2] + samples.LARGE[::3]:
        for bounds in list(bound_samples.some_bounds(history, 1))[::step]:
            if plain_bounds.top(history, bounds) <= bounds[0]:
                yield history, bounds


class Held(Case):
    def looked_at(self, book, history, bounds):
        """What the book tells is what is told of this history and bounds."""
        rows = plain_bounds.rows_of(history, bounds)
        self.gives((history, bounds), book.as_told)
        self.gives(plain_stores.bases_by(history, tuple(row[-1] for row in rows)), book.plan)
        self.gives(bounds[0] - plain_bounds.top(history, bounds), book.slack)
        self.same(len(book), len(history))
        self.same(list(book), list(rows))
        self.same([row for row in book], list(rows))
        for version, row in enumerate(rows, start=1):
            self.gives(row, book.row_at, version)


class Books(Held):
    def test_by_hand(self):
        book = Kept(samples.LINE, LEVEL)
        self.gives(False, book.may, 2, 2, 1)
        self.gives(True, book.may, 3, 2, 1)
        self.same(list(book), [(2, 2), (2, 1), (2,), (1, 1), (1,)])
        self.fails("Unkept", ((1, 2, 3, 4, 5),), book.bind, 2, 2, 1)
        self.gives((0, 1, 0, 3, 3), book.plan)
        self.gives((2,), book.row_at, 3)
        self.gives(0, book.slack)
        self.same(book.bind(3, 2, 1), None)
        self.gives((samples.LINE, (2, ((2, 2), (2, 2), (2, 1), (2, 2), (2, 2)))), book.as_told)
        self.fails("Unkept", ((1, 2),), Kept, SHORT, TIGHT)

    def test_any(self):
        for history, bounds in kept_bounds():
            self.looked_at(self.answer(Kept, history, bounds), history, bounds)

    def test_no_changes(self):
        book = self.answer(Kept, (), (5, ()))
        self.looked_at(book, (), (5, ()))
        self.gives(5, book.slack)
        self.same([len(book), list(book)], [0, []])
        self.gives(True, book.kept_by, ((), ((),)))
        self.refuses("version", book.row_at, 0)
        self.refuses("version", book.may, 1, 1, 1)

    def test_what_cannot_be_kept(self):
        for history in samples.SMALL + samples.LARGE[::3]:
            for bounds in bound_samples.some_bounds(history, 1):
                wall = plain_bounds.wall_in(history, bounds)
                if wall is not None:
                    self.fails("Unkept", (wall,), Kept, history, bounds)

    def test_level(self):
        for history in samples.SMALL[::3] + samples.LARGE[::4]:
            for width, reach in ((1, 1), (1, 2), (2, 1), (2, 2), (3, 2), (1, 40), (40, 1), (999, 999)):
                bounds = plain_bounds.level(history, width, reach)
                wall = plain_bounds.wall_in(history, bounds)
                if wall is None:
                    book = self.answer(Level, history, width, reach)
                    self.looked_at(book, history, bounds)
                    self.gives((width, reach), book.as_pair)
                    self.assertIsInstance(book, Kept)
                else:
                    self.fails("Unkept", (wall,), Level, history, width, reach)

    def test_kept_by(self):
        for history, bounds in kept_bounds(2):
            if len(history) > 24:
                continue
            book = Kept(history, bounds)
            self.gives(True, book.kept_by, store_by(history, book.plan()))
            for store in list(store_samples.right_stores(history, 1))[:4]:
                want = plain_bounds.first_broken(history, bounds, store) is None
                self.gives(want, book.kept_by, store)
            for store in list(store_samples.faulty_stores(history, 1))[:3]:
                self.fails("Faulty", plain_stores.fault(history, store), book.kept_by, store)

    def test_a_row_again(self):
        # Each time a book is gone through, it begins anew, also where two ways through it are mixed.
        book = Level(samples.LINE, 2, 2)
        self.same([(one, other) for one in book for other in book][:6], [
            ((2, 2), row) for row in ((2, 2), (2, 1), (2,), (1, 1), (1,))
        ] + [((2, 1), (2, 2))])
        self.same((2, 1) in list(book), True)
        self.same(max(book), (2, 2))


class Changes(Held):
    def bound(self, book, version, width, reach):
        """What bind does is what may tells; a refused call changes nothing."""
        history, bounds = book.as_told()
        changed = plain_bounds.one_bound(bounds, version, width, reach)
        wall = plain_bounds.wall_in(history, changed)
        self.gives(wall is None, book.may, version, width, reach)
        if wall is None:
            self.same(book.bind(version, width, reach), None)
            self.looked_at(book, history, changed)
            self.same(book == Kept(history, changed), True)
        else:
            self.fails("Unkept", (wall,), book.bind, version, width, reach)
            self.looked_at(book, history, bounds)
        return wall is None

    def test_bind(self):
        found = []
        for history, bounds in kept_bounds(2):
            if not history:
                continue
            book = Kept(history, bounds)
            source = samples.chance("bind", history, bounds)
            for _ in range(6):
                version = source.randint(1, len(history))
                width, reach = book.as_told()[1][1][version - 1]
                found.append(self.bound(
                    book, version, source.choice((1, max(1, width - 1), width, 999)),
                    source.choice((1, max(1, reach - 1), min(reach + 1, bounds[0]), bounds[0])),
                ))
        self.assertGreater(found.count(True), 30)
        self.assertGreater(found.count(False), 30)

    def test_by_name(self):
        book = Kept(samples.LINE, LEVEL)
        self.same(book.bind(reach=1, version=3, width=2), None)
        self.same(book.as_told()[1][1][2], (2, 1))
        level = Level(width=2, history=samples.LINE, reach=2)
        self.same(level.turn(reach=3, width=2), None)
        self.same(level.as_pair(), (2, 3))

    def test_turn(self):
        for history in samples.SMALL[1::3] + samples.LARGE[::4]:
            book = Level(history, 40, 40)
            pair = (40, 40)
            for width, reach in ((2, 3), (1, 1), (999, 1), (1, 999), (1, 2), (3, 3), (2, 2), (40, 1)):
                bounds = plain_bounds.level(history, width, reach)
                wall = plain_bounds.wall_in(history, bounds)
                if wall is None:
                    pair = (width, reach)
                    self.same(book.turn(width, reach), None)
                else:
                    self.fails("Unkept", (wall,), book.turn, width, reach)
                self.gives(pair, book.as_pair)
                self.looked_at(book, history, plain_bounds.level(history, *pair))

    def test_as_pair_behind_bind(self):
        book = Level(samples.LINE, 2, 2)
        self.same(book.bind(3, 5, 1), None)
        self.gives((2, 2), book.as_pair)
        self.gives((samples.LINE, (2, ((2, 2), (2, 2), (5, 1), (2, 2), (2, 2)))), book.as_told)
        self.fails("Unkept", ((1, 2, 3),), book.turn, 1, 2)
        self.gives((2, 2), book.as_pair)
        self.gives((samples.LINE, (2, ((2, 2), (2, 2), (5, 1), (2, 2), (2, 2)))), book.as_told)
        self.same(book.turn(3, 4), None)
        self.gives((3, 4), book.as_pair)
        self.looked_at(book, samples.LINE, plain_bounds.level(samples.LINE, 3, 4))
        self.same(book.bind(1, 999, 1), None)
        self.gives((3, 4), book.as_pair)
        self.refuses("reach", book.bind, 1, 999, 5)

    def test_a_book_answers_as_one_made_anew(self):
        for history in samples.SMALL[4::4] + samples.LARGE[:3]:
            book = Level(history, 9, 9)
            for version in range(1, len(history) + 1, 2):
                book.bind(version, 8, 9)
                anew = Kept(*book.as_told())
                self.same([anew.plan(), anew.slack(), list(anew), anew.as_told()],
                          [book.plan(), book.slack(), list(book), book.as_told()])
                for width in (1, 2, 9):
                    for reach in (1, 2, 9):
                        self.same(anew.may(version, width, reach), book.may(version, width, reach))
                self.same(anew == book, True)

    def test_books_are_apart(self):
        one, other = Level(samples.LINE, 2, 2), Level(samples.LINE, 2, 2)
        one.bind(3, 2, 1)
        self.same(other.as_told(), (samples.LINE, LEVEL))
        self.same(one == other, False)
        rows = list(other)
        other.turn(5, 1)
        self.same(rows, [(2, 2), (2, 1), (2,), (1, 1), (1,)])

    def test_a_way_through_a_book_that_is_bound_meanwhile(self):
        book = Kept((0, 1), (3, ((3, 3), (3, 3))))
        self.same(len(list(book)), 2)
        book.bind(2, 1, 1)
        self.same(list(book), [(3, 1), (3,)])


class Equality(Case):
    def alike(self, one, other, want):
        self.same([one == other, other == one, one != other, other != one], [want, want, not want, not want])

    def test_equal(self):
        for history, bounds in kept_bounds(2):
            self.alike(Kept(history, bounds), Kept(history, bounds), True)
        for history in samples.SMALL[::5]:
            level = plain_bounds.level(history, 5, 6)
            self.alike(Level(history, 5, 6), Level(history, 5, 6), True)
            self.alike(Level(history, 5, 6), Kept(history, level), True)

    def test_the_pair_of_a_level_does_not_count(self):
        one, other = Level((0,), 2, 3), Level((0,), 3, 3)
        self.alike(one, other, False)
        other.bind(1, 2, 3)
        self.alike(one, other, True)
        self.alike(one, Kept((0,), (3, ((2, 3),))), True)
        self.alike(Level((), 1, 2), Level((), 5, 2), True)

    def test_unlike(self):
        book = Kept((0, 1), (3, ((3, 3), (3, 3))))
        self.alike(book, Kept((0, 0), (3, ((3, 3), (3, 3)))), False)
        self.alike(book, Kept((0, 1), (4, ((3, 3), (3, 3)))), False)
        self.alike(book, Kept((0, 1), (3, ((3, 3), (3, 2)))), False)
        self.alike(book, Kept((0, 1), (3, ((3, 3), (4, 3)))), False)
        self.alike(Kept((), (3, ())), Kept((), (4, ())), False)

    def test_nothing_else(self):
        for book in (Kept((0, 1), (3, ((3, 3), (3, 3)))), Level((0, 1), 3, 3), Kept((), (1, ()))):
            for thing in (
                None, True, 0, (), [], "", book.as_told(), list(book), book.plan(), object(), Kept, (0, 1),
                Based((0, 1), (0, 1)), Told(("sum",), (0, 1), (1, 1)),
            ):
                self.alike(book, thing, False)


class Refusals(Held):
    def test_making(self):
        bad = bound_samples.bad_bounds(SHORT, 3)
        self.refuses_each(Kept, (SHORT, plain_bounds.level(SHORT, 2, 2)), {
            "history": samples.NO_HISTORIES, "bounds": bad,
        })
        self.refuses_each(Level, (SHORT, 2, 2), {
            "history": samples.NO_HISTORIES, "width": bound_samples.NO_UP_TO_999, "reach": bound_samples.NO_UP_TO_999,
        })

    def test_history_comes_first(self):
        for bad in samples.NO_HISTORIES:
            self.refuses("history", Kept, bad, None)
            self.refuses("history", Kept, bad, LEVEL)
            self.refuses("history", Level, bad, 0, 0)
            self.refuses("history", Level, bad, 1, 1)

    def test_methods(self):
        for history in (SHORT, samples.WIDE):
            bounds = (3, ((5, 3),) * len(history))
            for book in (Kept(history, bounds), Level(history, 5, 3)):
                bad = bound_samples.bad_versions(history)
                self.refuses_each(book.row_at, (1,), {"version": bad})
                wrongs = {
                    "version": bad, "width": bound_samples.NO_UP_TO_999,
                    "reach": bound_samples.NO_UP_TO_999 + (4, 5, 999),
                }
                self.refuses_each(book.may, (1, 5, 2), wrongs)
                for wrong in bad:
                    self.refuses("version", book.bind, wrong, 5, 3)
                    self.refuses("version", book.bind, wrong, 0, 0)
                for wrong in wrongs["width"]:
                    self.refuses("width", book.bind, 1, wrong, 3)
                    self.refuses("width", book.bind, 1, wrong, 4)
                for wrong in wrongs["reach"]:
                    self.refuses("reach", book.bind, 1, 5, wrong)
                for wrong in store_samples.no_stores(history):
                    self.refuses("store", book.kept_by, wrong)
                self.looked_at(book, history, bounds)

    def test_turn(self):
        book = Level(samples.WIDE, 5, 3)
        for wrong in bound_samples.NO_UP_TO_999:
            self.refuses("width", book.turn, wrong, 3)
            self.refuses("width", book.turn, wrong, 0)
            self.refuses("reach", book.turn, 3, wrong)
        self.gives((5, 3), book.as_pair)
        self.looked_at(book, samples.WIDE, plain_bounds.level(samples.WIDE, 5, 3))

    def test_a_refused_call_changes_nothing(self):
        book = Level(samples.LINE, 2, 2)
        book.bind(3, 2, 1)
        before = book.as_told()
        for call, error in (
            (lambda: book.bind(2, 2, 1), Unkept), (lambda: book.bind(9, 2, 1), NotUsable),
            (lambda: book.bind(1, 2, 3), NotUsable), (lambda: book.turn(1, 1), Unkept), (lambda: book.turn(1, 0), NotUsable),
            (lambda: book.kept_by(None), NotUsable), (lambda: book.row_at(True), NotUsable),
        ):
            with self.assertRaises(MarkError) as caught:
                call()
            self.assertIs(type(caught.exception), error)
            self.same([book.as_told(), book.as_pair()], [before, (2, 2)])
            self.looked_at(book, *before)

    def test_forty(self):
        for history in bound_samples.FORTY:
            book = Level(history, 999, 999)
            self.looked_at(book, history, plain_bounds.level(history, 999, 999))
            self.same(book.turn(40, 1), None)
            self.looked_at(book, history, plain_bounds.level(history, 40, 1))
