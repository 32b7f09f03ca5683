"""[34] Rows: merged, stepped, compared."""
import itertools

from sincemarks.rows import is_row, merged, stepped, unlike_at
from tests import bound_samples, plain_bounds, samples
from tests.cases import Case
from tests.samples import GREAT


class Kinds(Case):
    def test_rows(self):
        for row in (
            (), (1,), (2,), (1, 1), (2, 1), (2, 2), (3, 2, 2, 1), (GREAT,), (GREAT, GREAT, 1), (10 ** 60 - 1, 1),
            (1,) * 4999, tuple(range(4999, 0, -1)),
        ):
            self.gives(True, is_row, row)
        for row in bound_samples.some_rows("kinds"):
            self.gives(True, is_row, row)

    def test_no_rows(self):
        for thing in bound_samples.NO_ROWS:
            self.gives(False, is_row, thing)

    def test_values_of_any_sort(self):
        for thing in samples.ANY:
            self.gives(plain_bounds.is_row(thing), is_row, thing)

    def test_all_small_tuples(self):
        for many in range(4):
            for thing in itertools.product((-1, 0, 1, 2, 3, True), repeat=many):
                self.gives(plain_bounds.is_row(thing), is_row, thing)


class Merging(Case):
    def test_by_hand(self):
        for want, rows in (
            ((), ()), ((), ((),)), ((), ((), (), ())), ((3, 1), ((3, 1),)), ((2, 1, 1), ((2,), (1, 1))),
            ((2, 1, 1), ((1, 1), (2,))), ((2, 2, 2), ((2,), (2,), (2,))), ((5, 4, 3, 2, 1), ((5, 3, 1), (4, 2))),
            ((GREAT, GREAT - 1, 1), ((GREAT - 1,), (), (GREAT, 1))),
        ):
            self.gives(want, merged, rows)

    def test_any_rows(self):
        rows = list(bound_samples.some_rows("merging", many=120))
        for many in (0, 1, 2, 3, 5, 8, 40):
            for k in range(0, 80, 3):
                told = tuple((rows + rows)[k:k + many])
                self.gives(plain_bounds.merged(told), merged, told)
                self.same(merged(told), merged(told[::-1]))

    def test_refusals(self):
        for bad in bound_samples.NO_ROWS:
            if not (type(bad) is tuple and all(plain_bounds.is_row(row) for row in bad)):
                self.refuses("rows", merged, bad)
            for rows in ((bad,), ((1,), bad), (bad, (1,)), ((), (2,), bad)):
                self.refuses("rows", merged, rows)
        for bad in ([(1,)], [], [()], "ab", (1, 2), ([1], (1,)), (((1,),),)):
            self.refuses("rows", merged, bad)


class Steps(Case):
    def test_by_hand(self):
        for want, width, floor, row in (
            ((2, 2), 2, 1, (2, 1, 1)), ((3,), 1, 3, ()),
            # Floors below, among and above the members.
            ((5, 3, 1), 3, 1, (5, 3)), ((5, 3, 2), 3, 2, (5, 3)), ((5, 3, 3), 3, 3, (5, 3)), ((5, 4), 3, 4, (5, 3)),
            ((5, 5), 3, 5, (5, 3)), ((6,), 3, 6, (5, 3)), ((9,), 3, 9, (5, 3)),
            # As many members as the width, and more.
            ((5, 4), 2, 1, (5, 3)), ((6,), 1, 1, (5, 3)), ((4, 4, 3), 3, 1, (4, 4, 2)), ((3,), 2, 1, (2, 2)),
            ((3,), 2, 1, (2, 2, 2)), ((4, 3), 2, 1, (4, 2, 2, 2)), ((4, 4), 2, 4, (4, 2, 2, 2)),
            ((2,), 3, 1, (1, 1, 1, 1, 1)), ((1, 1, 1, 1), 4, 1, (1, 1, 1)), ((2,), 4, 1, (1, 1, 1, 1)),
        ):
            self.gives(want, stepped, width, floor, row)

    def test_great_members(self):
        for want, width, floor, row in (
            ((GREAT + 1,), 1, 1, (GREAT,)), ((GREAT, 1), 2, 1, (GREAT,)), ((GREAT, GREAT), 2, GREAT, (GREAT,)),
            ((GREAT,), 1, GREAT, (GREAT - 1,)), ((GREAT + 1,), 2, 1, (GREAT, GREAT)), ((GREAT,), 5, GREAT, (3, 2, 1)),
            ((GREAT, GREAT - 1), 2, 7, (GREAT, GREAT - 2, 1)), ((3, 2, 1, 1), GREAT, 1, (3, 2, 1)),
        ):
            self.gives(want, stepped, width, floor, row)

    def test_all_small_steps(self):
        for row in plain_bounds.all_rows(4, 3):
            for width in range(1, 6):
                for floor in range(1, 6):
                    self.same(stepped(width, floor, row), plain_bounds.stepped(width, floor, row), (width, floor, row))

    def test_any_steps(self):
        for row in bound_samples.some_rows("steps", many=200):
            source = samples.chance("step", row)
            for width in (1, 2, 3, 5, 999):
                for floor in (1, source.randint(1, 6), max((1, *row)), source.choice((1, 2, *row)) + 1, GREAT):
                    got = self.answer(stepped, width, floor, row)
                    self.same(got, plain_bounds.stepped(width, floor, row))
                    self.assertTrue(is_row(got))
                    self.assertLessEqual(len(got), width)
                    self.assertGreaterEqual(got[-1], floor)

    def test_the_greater_of_two_rows_leads_to_a_row_not_less(self):
        rows = plain_bounds.all_rows(4, 3)
        for one, other in zip(rows, rows[1:]):
            for width in range(1, 5):
                for floor in range(1, 5):
                    self.assertLessEqual(stepped(width, floor, one), stepped(width, floor, other), (one, other))

    def test_refusals(self):
        wrongs = {
            "width": bound_samples.NO_NATURALS, "floor": bound_samples.NO_NATURALS, "row": bound_samples.NO_ROWS,
        }
        self.refuses_each(stepped, (2, 1, (2, 1)), wrongs)
        self.refuses_each(stepped, (1, 3, ()), wrongs)


class Order(Case):
    def test_by_hand(self):
        for want, one, other in (
            (1, (2, 1), (2,)), (0, (), ()), (0, (3, 3, 1), (3, 3, 1)), (5, (5,), ()), (5, (), (5, 4)),
            (3, (5, 3, 3), (5, 3)), (3, (5, 3, 3), (5, 3, 1)), (4, (5, 4), (5, 3, 3, 3)), (9, (9, 9), (9, 8, 8)),
            (9, (9, 1), (8, 8, 8)), (2, (4, 4, 2), (4, 4)), (1, (1,) * 8, (1,) * 7), (GREAT, (GREAT, 1), (GREAT - 1,)),
            (1, (GREAT, 1), (GREAT,)),
        ):
            self.gives(want, unlike_at, one, other)
            self.gives(want, unlike_at, other, one)

    def test_python_compares_rows(self):
        rows = plain_bounds.all_rows(3, 3) + [row for row in bound_samples.some_rows("order", many=30)]
        for one in rows:
            for other in rows:
                self.same(unlike_at(one, other), plain_bounds.unlike_at(one, other), (one, other))
                self.same(one < other, plain_bounds.is_less(one, other), (one, other))

    def test_merged_with_a_third_row_the_greater_stays_the_greater(self):
        rows = plain_bounds.all_rows(3, 3)
        for third in ((), (1,), (2, 2), (3, 1), (5, 4, 4), (2, 1, 1, 1)):
            for one, other in zip(rows, rows[1:]):
                self.assertLess(merged((one, third)), merged((other, third)))

    def test_refusals(self):
        wrongs = {"one": bound_samples.NO_ROWS, "other": bound_samples.NO_ROWS}
        self.refuses_each(unlike_at, ((2, 1), (2,)), wrongs)
