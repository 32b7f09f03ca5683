"""[43] How many ways there are to choose; capacities."""
import itertools
from fractions import Fraction

from sincemarks.choosing import capacity, choose
from tests import bound_samples, plain_bounds
from tests.cases import Case
from tests.samples import GREAT


class Choosing(Case):
    def test_by_hand(self):
        for want, top, few in (
            (1, 0, 0), (0, 0, 1), (1, 5, 0), (5, 5, 1), (10, 5, 2), (1, 5, 5), (0, 5, 6), (0, 5, GREAT), (1, GREAT, 0),
            (GREAT, GREAT, 1), (GREAT * (GREAT - 1) // 2, GREAT, 2), (0, 39, 40), (1, 40, 40), (41, 41, 40),
            (137846528820, 40, 20), (0, 200, 201), (200, 200, 199), (1, 200, 200),
        ):
            self.gives(want, choose, top, few)

    def test_against_a_plain_count(self):
        for top in range(9):
            for few in range(11):
                sets = itertools.combinations(range(top), few)
                self.gives(sum(1 for _ in sets), choose, top, few)

    def test_each_is_the_sum_of_two(self):
        row = [1] + [0] * 210
        for top in range(201):
            for few in range(0, 211, 1 if top > 190 else 7):
                self.same(choose(top, few), row[few], (top, few))
            row = [1] + [row[k] + row[k + 1] for k in range(210)]

    def test_great_tops(self):
        for top in (10 ** 9, 10 ** 29 + 7, GREAT, GREAT - 39):
            for few in range(41):
                product = Fraction(1)
                for k in range(few):
                    product *= Fraction(top - k, k + 1)
                self.gives(int(product), choose, top, few)

    def test_top_below_few(self):
        for top in (0, 1, 7, 39, 200):
            for few in (top + 1, top + 2, 201, GREAT):
                self.gives(0, choose, top, few)

    def test_refusals(self):
        self.refuses_each(choose, (5, 2), {"top": bound_samples.NO_NUMBERS, "few": bound_samples.NO_NUMBERS})


class Capacities(Case):
    def test_by_hand(self):
        for want, width, reach in (
            (6, 2, 2), (2, 1, 1), (100, 1, 99), (41, 40, 1), (20, 3, 3), (10, 3, 2), (10, 2, 3),
        ):
            self.gives(want, capacity, width, reach)

    def test_rows_without_a_greater_member(self):
        for width in range(1, 5):
            for reach in range(1, 5):
                self.gives(len(plain_bounds.all_rows(width, reach)), capacity, width, reach)

    def test_all(self):
        for width in range(1, 41):
            for reach in range(1, 100):
                self.same(capacity(width, reach), plain_bounds.choose(width + reach, width), (width, reach))
        self.gives(plain_bounds.choose(139, 40), capacity, 40, 99)

    def test_refusals(self):
        self.refuses_each(capacity, (2, 3), {"width": bound_samples.NO_NATURALS, "reach": bound_samples.NO_NATURALS})
