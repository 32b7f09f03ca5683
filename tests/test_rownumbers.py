"""[44] Rows by their numbers."""
from sincemarks.choosing import capacity
from sincemarks.rownumbers import next_row, number_of, row_of
from sincemarks.rows import stepped
from tests import bound_samples, plain_bounds, samples
from tests.cases import Case
from tests.samples import GREAT


def great_numbers():
    source = samples.chance("numbers")
    yield from (GREAT, GREAT - 1, 10 ** 29, 2 ** 99, 2 ** 64, 2 ** 64 - 1)
    for _ in range(12):
        yield source.randint(0, 10 ** source.randint(1, 30) - 1)


class Numbers(Case):
    def test_by_hand(self):
        for number, width, row in (
            (4, 2, (2, 1)), (9, 2, (3, 3)), (0, 5, ()), (5, 2, (2, 2)), (6, 2, (3,)), (1, 1, (1,)), (7, 1, (7,)),
            (3, 3, (1, 1, 1)), (4, 3, (2,)), (1, 40, (1,)), (40, 40, (1,) * 40), (41, 40, (2,)), (GREAT, 1, (GREAT,)),
        ):
            self.gives(number, number_of, width, row)
            self.gives(row, row_of, width, number)
        self.gives((3,), next_row, 2, (2, 2))
        self.gives((1,), next_row, 1, ())
        self.gives((2, 1, 1), next_row, 3, (2, 1))

    def test_all_rows_in_their_order(self):
        for width, reach in ((1, 12), (2, 8), (3, 6), (4, 5), (5, 4), (6, 3), (7, 2), (12, 1)):
            rows = plain_bounds.all_rows(width, reach)
            for number, row in enumerate(rows):
                self.gives(number, number_of, width, row)
                self.gives(row, row_of, width, number)
            for row, following in zip(rows, rows[1:]):
                self.gives(following, next_row, width, row)
                self.same(stepped(width, 1, row), following)
            # All have the numbers below the capacity; the next one has this number.
            self.same(len(rows), capacity(width, reach))
            self.gives((reach + 1,), next_row, width, rows[-1])
            self.gives(capacity(width, reach), number_of, width, (reach + 1,))
            self.gives((reach + 1,), row_of, width, capacity(width, reach))

    def test_great_numbers(self):
        for width in range(1, 41):
            for number in list(great_numbers())[width % 3::3]:
                row = self.answer(row_of, width, number)
                self.same(row, plain_bounds.row_of(width, number))
                self.assertTrue(plain_bounds.is_row(row) and len(row) <= width)
                self.gives(number, number_of, width, row)
                self.gives(row_of(width, number + 1), next_row, width, row)

    def test_great_members(self):
        for width in (1, 2, 3, 7, 40):
            for row in ((GREAT,), (GREAT,) * width, (GREAT,) * (width - 1), tuple(GREAT - k for k in range(width))):
                number = plain_bounds.number_of(width, row)
                self.gives(number, number_of, width, row)
                self.same(row_of(width, number), row)
                self.gives(plain_bounds.stepped(width, 1, row), next_row, width, row)

    def test_capacities(self):
        for width in (1, 2, 3, 20, 40):
            for reach in (1, 2, 50, 99):
                number = capacity(width, reach)
                self.gives((reach + 1,), row_of, width, number)
                self.gives((reach,) * width, row_of, width, number - 1)

    def test_numbers_have_the_order_of_rows(self):
        for width in (2, 5, 40):
            rows = [row for row in bound_samples.some_rows("numbers", width) if len(row) <= width]
            for one, other in zip(rows, rows[1:]):
                self.same(number_of(width, one) < number_of(width, other), one < other)
                self.same(row_of(width, number_of(width, one)), one)

    def test_refusals(self):
        no_rows = bound_samples.NO_ROWS + ((1, 1, 1), (5, 4, 3, 2), (1,) * 40)
        for function in (number_of, next_row):
            self.refuses_each(function, (2, (2, 1)), {"width": bound_samples.NO_NATURALS, "row": no_rows})
        self.refuses_each(row_of, (2, 7), {"width": bound_samples.NO_NATURALS, "number": bound_samples.NO_NUMBERS})
        self.refuses("row", number_of, 1, (1, 1))
        self.refuses("row", next_row, 40, (1,) * 41)
