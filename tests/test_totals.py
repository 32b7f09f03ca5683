"""Running totals."""
from sincemarks.errors import MarkError
from sincemarks.lineclasses import Line
from sincemarks.sheetclasses import Sums
from sincemarks.totals import Totals
from tests import line_samples, plain, plain_sheets, plain_stores, samples, sheet_samples
from tests.cases import Case
from tests.samples import GREAT

TWOS = (0, 1, 0, 3, 3)
NO_INTEGERS = (True, False, None, "", "1", (), (1,), [1], [])


class Held(Case):
    def looked_at(self, sums, numbers, bases):
        """What the object tells is what is told of these numbers."""
        many, line = len(numbers), tuple(range(len(numbers)))
        self.same(len(sums), many)
        self.gives(tuple(numbers), sums.numbers_now)
        self.gives(plain_sheets.filled(("sum",), line, tuple(numbers), bases), sums.parts)
        for low in range(many + 1):
            self.gives(sum(numbers[:low]), sums.total, low)
            for high in range(low, many + 1, 1 + many // 6):
                self.gives(sum(numbers[low:high]), sums.within, low, high)


class Books(Held):
    def test_by_hand(self):
        sums = Totals((3, 1, 4, 1, 5), TWOS)
        self.same([sums.total(5), sums.within(1, 4), sums.parts()], [14, 6, (3, 1, 8, 1, 6)])
        self.same([sums.put(0, 10), sums.raise_by(4, -2), sums.total(5), sums.parts(), len(sums)],
                  [2, 1, 19, (10, 1, 15, 1, 4), 5])
        self.same([sums.total(0), sums.within(0, 0), sums.within(5, 5), sums.within(0, 5)], [0, 0, 0, 19])

    def test_any(self):
        for bases in line_samples.plans(4, 5, 24):
            source = samples.chance("totals", bases)
            numbers = tuple(source.choice((0, -7, source.randint(-99, 99), GREAT)) for _ in bases)
            sums = self.answer(Totals, numbers, bases)
            self.looked_at(sums, numbers, bases)

    def test_put_and_raise_by(self):
        for bases in line_samples.plans(4, 5, 24):
            source = samples.chance("put", bases)
            now = [source.randint(-9, 9) for _ in bases]
            sums = Totals(tuple(now), bases)
            line = tuple(range(len(bases)))
            for place in source.sample(range(len(bases)), min(4, len(bases))):
                held = len(plain_sheets.holders(line, bases, place + 1))
                number = source.choice((0, 5, -GREAT, now[place]))
                self.same(sums.put(place, number), held)
                now[place] = number
                number = source.choice((0, 5, -3, GREAT))
                self.same(sums.raise_by(place, number), held)
                now[place] += number
                self.same(sums.raise_by(number=1, place=place), held)
                self.same(sums.put(number=now[place], place=place), held)
            self.looked_at(sums, now, bases)

    def test_no_places(self):
        sums = Totals((), ())
        self.looked_at(sums, (), ())
        for call in (lambda: sums.put(0, 1), lambda: sums.raise_by(0, 1)):
            with self.assertRaises(MarkError) as caught:
                call()
            self.same((caught.exception.word, caught.exception.at), ("place", -1))
        self.refuses("many", sums.total, 1)
        self.refuses("high", sums.within, 0, 1)
        self.refuses("low", sums.within, 1, 1)

    def test_what_was_told_stays(self):
        sums = Totals((3, 1), (0, 0))
        numbers, parts = sums.numbers_now(), sums.parts()
        sums.put(0, 9)
        self.same([numbers, parts, sums.numbers_now(), sums.parts()], [(3, 1), (3, 4), (9, 1), (9, 10)])


class Refusals(Held):
    def test_making(self):
        bad = (None, True, 0, "", [1, 2, 3], (1, 2, True), (None, 2, 3), (1, "2", 3), (1, 2, (3,)), "123", {}, ((1, 2, 3),))
        plans = line_samples.NO_PLANS + ((), (0,), (0, 1), (0, 1, 2, 3), (0, 0, 0, 0), sheet_samples.CROSSED)
        self.refuses_each(Totals, ((1, 2, 3), (0, 1, 0)), {"numbers": bad, "bases": plans})
        self.refuses("numbers", Totals, None, None)
        self.refuses("bases", Totals, (), (0,))
        self.refuses("bases", Totals, (1, 2, 3, 4), sheet_samples.CROSSED)

    def test_methods(self):
        sums = Totals((3, 1, 4), (0, 1, 0))
        bad = (4, 5, GREAT, -1, *NO_INTEGERS)
        self.refuses_each(sums.total, (3,), {"many": bad})
        self.refuses_each(sums.within, (1, 2), {"low": bad, "high": bad})
        for low in range(1, 4):
            for high in range(low):
                self.refuses("high", sums.within, low, high)

    def raised(self, word, call):
        with self.assertRaises(MarkError) as caught:
            call()
        self.same(vars(caught.exception), {"word": word, "at": -1})

    def test_changes(self):
        sums = Totals((3, 1, 4), (0, 1, 0))
        for change in (sums.put, sums.raise_by):
            for place in (3, 4, GREAT, -1, *NO_INTEGERS):
                self.raised("place", lambda: change(place, 5))
                self.raised("place", lambda: change(place, None))
            for number in NO_INTEGERS:
                self.raised("number", lambda: change(2, number))
        self.looked_at(sums, (3, 1, 4), (0, 1, 0))


class Equality(Held):
    def alike(self, one, other, want):
        self.same([one == other, other == one, one != other, other != one], [want, want, not want, not want])

    def test_equal(self):
        for bases in line_samples.plans(4, 2, 9):
            numbers = tuple(range(len(bases)))
            self.alike(Totals(numbers, bases), Totals(numbers, bases), True)
        one, other = Totals((1, 2), (0, 1)), Totals((1, 3), (0, 1))
        self.alike(one, other, False)
        one.raise_by(1, 1)
        self.alike(one, other, True)
        self.alike(one, Totals((1, 3), (0, 0)), False)
        self.alike(Totals((), ()), Totals((0,), (0,)), False)
        one.put(0, 5)
        self.alike(one, other, False)

    def test_nothing_else(self):
        for thing in (None, True, 0, (), (1, 2), [1, 2], Sums((0, 1), (1, 2), (0, 1)), Line((0, 1)), Totals, object()):
            self.alike(Totals((1, 2), (0, 1)), thing, False)

    def test_against_sums(self):
        self.assertEqual(plain.blank(("sum",)), 0)
        for bases in line_samples.plans(3, 2, 9):
            numbers = tuple(range(3, 3 + len(bases)))
            sums = Sums(tuple(range(len(bases))), numbers, bases)
            self.same(Totals(numbers, bases).parts(), sums.worths_now)
            self.same(len(plain_stores.later(bases)), len(Totals(numbers, bases)))
