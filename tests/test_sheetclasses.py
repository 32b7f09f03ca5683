"""Filled sheets as objects."""
import inspect
import itertools

from sincemarks.errors import MarkError, NotUsable, Unserved
from sincemarks.historyclasses import Told
from sincemarks.lineclasses import Line
from sincemarks.mending import mended
from sincemarks.remaking import remade
from sincemarks.sheetclasses import Filled, Sums
from sincemarks.shifting import shifted
from tests import plain, plain_sheets, plain_stores, samples, sheet_samples
from tests.cases import Case
from tests.plain_stores import later
from tests.samples import GREAT, LINE
from tests.sheet_samples import CROSSED, FOUR, FREE, TWOS

SUM, TEXT, GIVEN = ("sum",), ("text",), (5, -2, 7, 1, 4)
NO_BOOLS = (0, 1, None, "", "True", (), (True,), [True], 2)


class Held(Case):
    def looked_at(self, book, told, lost=()):
        """What the object tells is what is told of this quadruple, with these sheets lost."""
        kind, history, changes, bases = told
        self.same(book.made_from, told)
        self.same(book.lost_now, tuple(lost))
        sheets = plain_sheets.filled(kind, history, changes, bases)
        self.same(book.worths_now, tuple(None if v in lost else sheets[v - 1] for v in later(history)))
        few = range(len(history) + 1)
        for version in few if len(few) < 12 else samples.chance("few", told, lost).sample(few, 8):
            if set(plain_stores.chain(bases, version)) & set(lost):
                self.fails("Unserved", (version,), book, version)
            else:
                self.gives(plain.state(kind, history, changes, version), book, version)

    def raised(self, error, fields, call):
        with self.assertRaises(error) as caught:
            call()
        self.assertIs(type(caught.exception), error)
        self.same(vars(caught.exception), fields)


def books(step=1):
    """Kinds with histories, changes and plans, each made a Filled, for numbers also a Sums."""
    for told in sheet_samples.told(2 * step):
        yield Filled(*told), told
        if told[0] == SUM:
            yield Sums(*told[1:]), told


class Making(Held):
    def test_any(self):
        for kind, history, changes, bases in sheet_samples.told(2):
            book = self.answer(Filled, kind, history, changes, bases)
            self.looked_at(book, (kind, history, changes, bases))
            if kind == SUM:
                sums = self.answer(Sums, history, changes, bases)
                self.assertIsInstance(sums, Filled)
                self.looked_at(sums, (SUM, history, changes, bases))

    def test_no_changes(self):
        for book in (Filled(TEXT, (), (), ()), Sums((), (), ())):
            self.same([book.worths_now, book.lost_now, book.lose(), book.make_again(), book.turn_to(())], [()] * 5)
            self.same(list(book.asked_each(0, 0)), [book(0)] * 2)

    def test_refusals(self):
        for kind in samples.NINE:
            for history in (FOUR, (0,)):
                changes = samples.some_changes(kind, len(history), samples.chance("book", kind))
                wrongs = {name: sheet_samples.wrongs(kind, history)[name] for name in ("kind", "changes", "bases")}
                wrongs["history"] = samples.NO_HISTORIES
                self.refuses_each(Filled, (kind, history, changes, history), wrongs)
                if kind == SUM:
                    del wrongs["kind"]
                    self.refuses_each(Sums, (history, changes, history), wrongs)
        self.refuses("kind", Filled, None, None, None, None)
        self.refuses("history", Filled, SUM, None, None, None)
        self.refuses("changes", Filled, SUM, (0,), None, None)
        self.refuses("bases", Filled, SUM, FOUR, (1, 2, 3, 4), CROSSED)
        self.refuses("history", Sums, (1,), (5,), (0,))
        self.refuses("changes", Sums, (0,), ("a",), (0,))

    def test_properties_cannot_be_put(self):
        book = Sums((0, 1), (1, 2), (0, 1))
        for name in ("made_from", "worths_now", "lost_now"):
            with self.assertRaises(AttributeError):
                setattr(book, name, ())


class Asking(Held):
    def test_by_hand(self):
        book = Sums(LINE, GIVEN, TWOS)
        self.gives(15, book, 5)
        self.same(book.put_right(1, 6), (1, 3))
        self.gives(16, book, 5)
        self.same(book.lose(4), (4,))
        self.same(book.worths_now, (6, -2, 11, None, 5))
        self.fails("Unserved", (4,), book, 4)
        self.same([book.raise_by(5, 2), book.lost_now, book(4), book.apart(5, 2)], [(4, 5), (), 12, -14])

    def test_versions(self):
        for book, told in books(2):
            for bad in samples.no_versions(told[1]):
                self.refuses("version", book, bad)
            if told[1]:
                book.lose(*later(told[1]))
                for bad in samples.no_versions(told[1]):
                    self.refuses("version", book, bad)
                self.gives(plain.blank(told[0]), book, 0)

    def test_asked_each(self):
        for book, (kind, history, changes, bases) in books():
            versions = list(range(len(history) + 1))
            states = [plain.state(kind, history, changes, version) for version in versions]
            self.assertTrue(inspect.isgenerator(book.asked_each(*versions)))
            self.same(list(book.asked_each(*versions)), states)
            self.same(list(book.asked_each(*versions[::-1], *versions)), states[::-1] + states)
            self.same(list(book.asked_each(0, 0, 0)), states[:1] * 3)
            self.same(list(book.asked_each()), [])

    def test_asked_each_refuses_ahead_of_the_first(self):
        for book in (Filled(TEXT, (0, 1), ("a", "b"), (0, 1)), Sums((0, 1), (1, 2), (0, 1))):
            book.lose(1)
            for bad in samples.no_versions((0, 1)):
                for versions in ((bad,), (0, bad), (bad, 0), (1, bad), (0, 0, 0, bad), (2, 1, bad, bad)):
                    given = book.asked_each(*versions)
                    self.raised(NotUsable, {"word": "versions", "at": -1}, lambda: next(given))

    def test_asked_each_raises_where_it_is_asked(self):
        book = Filled(TEXT, (0, 1, 1), ("a", "b", "c"), (0, 1, 0))
        book.lose(2)
        given = book.asked_each(0, 1, 3, 2, 1)
        self.same([next(given), next(given), next(given)], ["", "a", "ac"])
        self.raised(Unserved, {"version": 2}, lambda: next(given))
        self.raised(Unserved, {"version": 2}, lambda: next(book.asked_each(2, 0)))

    def test_asked_each_as_the_book_then_is(self):
        book = Filled(TEXT, (0, 1, 1), ("a", "b", "c"), (0, 1, 0))
        given = book.asked_each(1, 1, 2, 2, 3, 3)
        self.same(next(given), "a")
        book.put_right(1, "z")
        self.same([next(given), next(given)], ["z", "zb"])
        book.lose(1)
        self.raised(Unserved, {"version": 2}, lambda: next(given))
        book.lose(3)
        again = book.asked_each(0, 3, 3)
        self.same(next(again), "")
        book.make_again()
        self.same([next(again), next(again)], ["zc", "zc"])


class Changing(Held):
    def test_put_right(self):
        for book, (kind, history, changes, bases) in books():
            source = samples.chance("put right", kind, history)
            for version in source.sample(later(history), min(3, len(history))):
                change = samples.some_change(kind, source)
                told = book.made_from
                want = mended(*told, book.worths_now, version, change)
                holders = plain_sheets.holders(history, bases, version)
                self.same(book.put_right(version, change, dry=True), holders)
                self.looked_at(book, told)
                self.same(book.put_right(version, change, dry=False), holders)
                self.same((book.made_from[2], book.worths_now), want)
                self.looked_at(book, (kind, history, want[0], bases))
                self.same(book.put_right(change=change, version=version), holders)

    def test_lose(self):
        for book, told in books():
            kind, history, changes, bases = told
            source = samples.chance("lose", kind, history)
            lost = set()
            for _ in range(3):
                some = [source.randint(1, len(history)) for _ in range(source.randint(0, 3))] if history else []
                lost |= set(some)
                self.same(book.lose(*some), plain_sheets.spoiled(history, bases, lost))
                self.looked_at(book, told, sorted(lost))
            self.same(book.lose(), plain_sheets.spoiled(history, bases, lost))
            self.same(book.lose(*sorted(lost, reverse=True), *lost), plain_sheets.spoiled(history, bases, lost))
            self.same(book.make_again(), tuple(sorted(lost)))
            self.looked_at(book, told)
            self.same(book.make_again(), ())
            self.same(book.lose(), ())

    def test_make_again_as_remade(self):
        for book, (kind, history, changes, bases) in books(2):
            for versions in samples.subsets(history, 2)[-3:]:
                book.lose(*versions)
                whole = [plain.blank(kind) if sheet is None else sheet for sheet in book.worths_now]
                self.same(book.make_again(), versions)
                self.same(book.worths_now, remade(kind, history, changes, bases, tuple(whole), versions))

    def test_put_right_with_lost_sheets(self):
        for book, (kind, history, changes, bases) in books():
            source = samples.chance("put with lost", kind, history)
            for version in source.sample(later(history), min(3, len(history))):
                lost = sorted(source.sample(later(history), source.randint(0, len(history))))
                book.lose(*lost)
                told = book.made_from
                change = samples.some_change(kind, source)
                want = tuple(sorted({*lost, *plain_sheets.holders(history, bases, version)}))
                self.same(book.put_right(version, change, dry=True), want)
                self.looked_at(book, told, lost)
                self.same(book.put_right(version, change), want)
                put = told[2][:version - 1] + (change,) + told[2][version:]
                self.looked_at(book, (kind, history, put, bases))

    def test_turn_to(self):
        for book, (kind, history, changes, bases) in books():
            source = samples.chance("turn to", kind, history)
            for other in sheet_samples.some_plans(history):
                before = book.made_from[3]
                lost = sorted(source.sample(later(history), source.choice((0, 0, source.randint(0, len(history))))))
                right = book.worths_now
                book.lose(*lost)
                want = tuple(sorted({*lost, *plain_sheets.rewritten(before, other)}))
                self.same(book.turn_to(other), want)
                self.same(book.worths_now, shifted(kind, history, changes, before, right, other))
                self.looked_at(book, (kind, history, changes, other))
                self.same(book.turn_to(other=other), ())

    def test_raise_by(self):
        for history in samples.SMALL[3::3] + samples.LARGE[::4]:
            source = samples.chance("raise", history)
            for bases in list(sheet_samples.some_plans(history))[::2]:
                book = Sums(history, samples.some_changes(SUM, len(history), source), bases)
                for many in (0, 3, -5, GREAT, -GREAT):
                    version = source.randint(1, len(history))
                    lost = sorted(source.sample(later(history), source.choice((0, 1))))
                    book.lose(*lost)
                    told = book.made_from
                    want = tuple(sorted({*lost, *plain_sheets.holders(history, bases, version)}))
                    self.same(book.raise_by(version, many, dry=True), want)
                    self.looked_at(book, told, lost)
                    self.same(book.raise_by(version, many), want)
                    put = told[2][:version - 1] + (told[2][version - 1] + many,) + told[2][version:]
                    self.looked_at(book, (SUM, history, put, bases))
                self.same(book.raise_by(many=1, version=1, dry=False), plain_sheets.holders(history, bases, 1))

    def test_apart(self):
        for history in samples.SMALL[::3] + samples.LARGE[:3]:
            changes = samples.some_changes(SUM, len(history), samples.chance("apart", history))
            for bases in list(sheet_samples.some_plans(history))[1::2]:
                book = Sums(history, changes, bases)
                for one, other in itertools.product(range(len(history) + 1), repeat=2):
                    gain = plain.state(SUM, history, changes, other) - plain.state(SUM, history, changes, one)
                    self.gives(gain, book.apart, one, other)

    def test_apart_of_lost_ones(self):
        book = Sums(FOUR, (1, 2, 3, 4), (0, 0, 0, 0))
        book.lose(2, 3)
        self.fails("Unserved", (2,), book.apart, 2, 3)
        self.fails("Unserved", (3,), book.apart, 3, 2)
        self.fails("Unserved", (3,), book.apart, 1, 3)
        self.fails("Unserved", (2,), book.apart, 2, 0)
        self.gives(9, book.apart, 1, 4)
        self.refuses("one", book.apart, 5, 2)
        self.refuses("other", book.apart, 2, 5)

    def test_lost_ones_are_not_kept(self):
        # A lost sheet is made again of the changes there are then.
        book = Sums(LINE, GIVEN, TWOS)
        self.same(book.lose(3, 1), (1, 2, 3, 4, 5))
        self.same(book.put_right(2, 100), (1, 2, 3))
        self.looked_at(book, (SUM, LINE, (5, 100, 7, 1, 4), TWOS))
        self.same([book.lose(5), book.turn_to(FREE)], [(5,), (2, 4, 5)])
        self.looked_at(book, (SUM, LINE, (5, 100, 7, 1, 4), FREE))

    def test_forty(self):
        for history in (tuple(range(40)), (0,) * 40, tuple(k // 3 for k in range(40))):
            for bases in list(sheet_samples.some_plans(history))[::3]:
                book = Filled(TEXT, history, ("ab",) * 40, bases)
                self.same(book.lose(*range(40, 0, -1)), tuple(range(1, 41)))
                self.same(book.put_right(1, "c"), tuple(range(1, 41)))
                self.looked_at(book, (TEXT, history, ("c",) + ("ab",) * 39, bases))
                self.same(len(list(book.asked_each(*range(41)))), 41)


class Refusals(Held):
    def test_put_right(self):
        for kind in samples.NINE:
            changes = samples.some_changes(kind, 4, samples.chance("refused", kind))
            book = Filled(kind, FOUR, changes, FOUR)
            book.lose(2)
            bad = sheet_samples.wrongs(kind, FOUR)
            for wrong in bad["version"]:
                self.raised(NotUsable, {"word": "version", "at": -1}, lambda: book.put_right(wrong, changes[0]))
                self.raised(NotUsable, {"word": "version", "at": -1}, lambda: book.put_right(wrong, None, dry=None))
            for wrong in bad["change"]:
                self.raised(NotUsable, {"word": "change", "at": -1}, lambda: book.put_right(1, wrong))
                self.raised(NotUsable, {"word": "change", "at": -1}, lambda: book.put_right(1, wrong, dry=3))
            for wrong in NO_BOOLS:
                self.raised(NotUsable, {"word": "dry", "at": -1}, lambda: book.put_right(1, changes[0], dry=wrong))
            self.looked_at(book, (kind, FOUR, changes, FOUR), (2,))

    def test_raise_by(self):
        book = Sums(FOUR, (1, 2, 3, 4), FOUR)
        book.lose(2)
        for wrong in sheet_samples.wrongs(SUM, FOUR)["version"]:
            self.raised(NotUsable, {"word": "version", "at": -1}, lambda: book.raise_by(wrong, 5))
            self.raised(NotUsable, {"word": "version", "at": -1}, lambda: book.raise_by(wrong, None, dry=None))
        for wrong in sheet_samples.no_change(SUM):
            self.raised(NotUsable, {"word": "many", "at": -1}, lambda: book.raise_by(1, wrong))
            self.raised(NotUsable, {"word": "many", "at": -1}, lambda: book.raise_by(1, wrong, dry="x"))
        for wrong in NO_BOOLS:
            self.raised(NotUsable, {"word": "dry", "at": -1}, lambda: book.raise_by(1, 5, dry=wrong))
        self.looked_at(book, (SUM, FOUR, (1, 2, 3, 4), FOUR), (2,))

    def test_dry_by_name_alone(self):
        book = Sums(FOUR, (1, 2, 3, 4), FOUR)
        for call in (lambda: book.put_right(1, 5, True), lambda: book.raise_by(1, 5, True)):
            with self.assertRaises(TypeError):
                call()
        self.looked_at(book, (SUM, FOUR, (1, 2, 3, 4), FOUR))

    def test_lose(self):
        for book in (Filled(TEXT, FOUR, ("a", "b", "c", "d"), FOUR), Sums(FOUR, (1, 2, 3, 4), FOUR)):
            told = book.made_from
            book.lose(3)
            for wrong in samples.no_versions(FOUR) + (0,):
                for versions in ((wrong,), (1, wrong), (wrong, 1), (3, 3, wrong), (4, 1, wrong, 2)):
                    self.raised(NotUsable, {"word": "versions", "at": -1}, lambda: book.lose(*versions))
            self.looked_at(book, told, (3,))

    def test_turn_to(self):
        for book in (Filled(TEXT, FOUR, ("a", "b", "c", "d"), FOUR), Sums(FOUR, (1, 2, 3, 4), FOUR)):
            told = book.made_from
            book.lose(3)
            for wrong in sheet_samples.no_plans(FOUR):
                self.raised(NotUsable, {"word": "other", "at": -1}, lambda: book.turn_to(wrong))
            self.looked_at(book, told, (3,))

    def test_apart(self):
        book = Sums(FOUR, (1, 2, 3, 4), FOUR)
        bad = samples.no_versions(FOUR)
        self.refuses_each(book.apart, (1, 2), {"one": bad, "other": bad})
        book.lose(1)
        for wrong in bad:
            self.refuses("one", book.apart, wrong, 1)
            self.refuses("other", book.apart, 1, wrong)

    def test_a_refused_call_changes_nothing(self):
        book = Sums(LINE, GIVEN, TWOS)
        book.lose(1)
        for call in (
            lambda: book(1), lambda: book(9), lambda: next(book.asked_each(1)), lambda: next(book.asked_each(7)),
            lambda: book.put_right(6, 1), lambda: book.lose(2, 0), lambda: book.turn_to((0, 1, 0, 2, 0)),
            lambda: book.raise_by(1, True), lambda: book.apart(1, 2), lambda: book.put_right(2, 1, dry=1),
        ):
            with self.assertRaises(MarkError):
                call()
            self.looked_at(book, (SUM, LINE, GIVEN, TWOS), (1,))


class Equality(Held):
    def alike(self, one, other, want):
        self.same([one == other, other == one, one != other, other != one], [want, want, not want, not want])

    def test_equal(self):
        for told in sheet_samples.told(3):
            self.alike(Filled(*told), Filled(*told), True)
            if told[0] == SUM:
                self.alike(Filled(*told), Sums(*told[1:]), True)

    def test_lost_ones_unlike(self):
        one, other = Sums(LINE, GIVEN, TWOS), Filled(SUM, LINE, GIVEN, TWOS)
        one.lose(2)
        self.alike(one, other, False)
        other.lose(3)
        self.alike(one, other, False)
        other.lose(2)
        one.lose(3, 3)
        self.alike(one, other, True)
        one.make_again()
        self.alike(one, other, False)
        other.make_again()
        self.alike(one, other, True)

    def test_unlike(self):
        book = Filled(SUM, (0, 1), (1, 1), (0, 1))
        self.alike(book, Filled(("peak",), (0, 1), (1, 1), (0, 1)), False)
        self.alike(book, Filled(SUM, (0, 0), (1, 1), (0, 0)), False)
        self.alike(Filled(SUM, (0, 1), (1, 1), (0, 0)), Filled(SUM, (0, 0), (1, 1), (0, 0)), False)
        self.alike(book, Filled(SUM, (0, 1), (1, 2), (0, 1)), False)
        self.alike(book, Filled(SUM, (0, 1), (1, 1), (0, 0)), False)
        self.alike(Filled(SUM, (), (), ()), Filled(TEXT, (), (), ()), False)
        turned = Filled(SUM, (0, 1), (1, 1), (0, 0))
        turned.turn_to((0, 1))
        self.alike(book, turned, True)
        turned.put_right(2, 5)
        self.alike(book, turned, False)

    def test_nothing_else(self):
        for book in (Filled(SUM, (0, 1), (1, 1), (0, 1)), Sums((0, 1), (1, 1), (0, 1)), Filled(TEXT, (), (), ())):
            for thing in (
                None, True, 0, (), [], "", book.made_from, book.worths_now, object(), Filled, Sums,
                Told(SUM, (0, 1), (1, 1)), Line((0, 1)),
            ):
                self.alike(book, thing, False)

    def test_apart_from_each_other(self):
        one, other = Sums(LINE, GIVEN, TWOS), Sums(LINE, GIVEN, TWOS)
        worths, made = one.worths_now, one.made_from
        one.put_right(1, 9)
        one.lose(2)
        self.looked_at(other, (SUM, LINE, GIVEN, TWOS))
        self.same([worths, made], [(5, -2, 10, 1, 5), (SUM, LINE, GIVEN, TWOS)])
