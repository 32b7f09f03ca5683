"""[56] The least counts."""
from sincemarks.leastcounts import least_greatest, least_sum, sorted_least
from tests import bound_samples, plain_bounds, plain_lines, samples
from tests.cases import Case
from tests.samples import GREAT


class Counts(Case):
    def test_by_hand(self):
        self.gives((1, 1, 2, 2, 2), sorted_least, 5, 2)
        self.gives(8, least_sum, 5, 2)
        self.gives((1, 2, 3, 4), sorted_least, 4, 1)
        self.gives(3, least_greatest, 6, 2)
        self.gives((1,) * 40 + (2,) * 60, sorted_least, 100, 40)
        self.gives(160, least_sum, 100, 40)

    def test_by_their_definition(self):
        for many in (*range(13), 99, 100):
            for reach in (*range(1, 7), 39, 40):
                least = plain_lines.least_counts(many, reach)
                self.gives(least, sorted_least, many, reach)
                self.gives(sum(least), least_sum, many, reach)
                self.gives(least[-1] if least else 0, least_greatest, many, reach)

    def test_none(self):
        for reach in (1, 2, 40):
            self.gives((), sorted_least, 0, reach)
            self.gives(0, least_sum, 0, reach)
            self.gives(0, least_greatest, 0, reach)

    def test_thirty_figures(self):
        source = samples.chance("least")
        for reach in range(1, 41):
            for many in (GREAT, GREAT - 1, 10 ** 29, source.randint(10 ** 28, GREAT), source.randint(1, 10 ** 15)):
                u = self.answer(least_greatest, many, reach)
                self.assertGreater(plain_bounds.choose(u + reach, reach), many)
                self.assertLessEqual(plain_bounds.choose(u - 1 + reach, reach), many)
        self.gives(GREAT, least_greatest, GREAT, 1)

    def test_at_the_edges(self):
        for reach in (1, 2, 3, 7, 40):
            for u in (1, 2, 3, 9, 1000):
                edge = plain_bounds.choose(u + reach, reach)
                self.gives(u, least_greatest, edge - 1, reach)
                self.gives(u + 1, least_greatest, edge, reach)

    def test_refusals(self):
        wrongs = {"many": bound_samples.NO_NUMBERS, "reach": bound_samples.NO_NATURALS}
        for function in (sorted_least, least_sum, least_greatest):
            self.refuses_each(function, (5, 2), wrongs)
