"""[55] How many line plans there are, and their numbers."""
from math import comb

from sincemarks.choosing import choose
from sincemarks.counting import plans_many, plans_within
from sincemarks.linecounts import line_reads, line_writes
from sincemarks.numbering import plan_at, plan_number
from tests import bound_samples, line_samples, plain_lines, samples
from tests.cases import Case
from tests.samples import GREAT


class Counting(Case):
    def test_by_hand(self):
        for many, want in enumerate((1, 1, 2, 5, 14, 42, 132, 429, 1430)):
            self.gives(want, plans_many, many)
        self.gives(6564120420, plans_many, 20)
        self.gives(5, plans_within, 3, 3, 3)
        self.gives(1, plans_within, 3, 1, 3)
        self.gives(1, plans_within, 5, 2, 2)
        self.gives(0, plans_within, 6, 2, 2)

    def test_many(self):
        # As many as there are ways to part the line at its cut, again and again.
        counts = [1]
        for many in range(1, 101):
            counts.append(sum(counts[k] * counts[many - 1 - k] for k in range(many)))
        for many, want in enumerate(counts):
            self.gives(want, plans_many, many)
            self.same(want, comb(2 * many, many) - comb(2 * many, many + 1))

    def test_against_all_plans(self):
        for many in range(8):
            told = [
                (max((0, *plain_lines.writes(bases))), max(plain_lines.reads(bases)))
                for bases in plain_lines.all_plans(many)
            ]
            self.gives(len(told), plans_many, many)
            for width in range(many + 2):
                for reach in range(many + 2):
                    want = sum(writes <= width and reads <= reach for writes, reads in told)
                    self.gives(want, plans_within, many, width, reach)
            self.gives(len(told), plans_within, many, 40, 40)

    def test_0(self):
        for value in (0, 1, 2, 40):
            self.gives(1, plans_within, 0, 0, value)
            self.gives(1, plans_within, 0, value, 0)
            for many in (1, 2, 20):
                self.gives(0, plans_within, many, 0, value)
                self.gives(0, plans_within, many, value, 0)

    def test_width_and_reach_may_be_exchanged(self):
        for many in (0, 1, 2, 5, 9, 14, 20):
            for width in range(7):
                for reach in range(width):
                    self.same(plans_within(many, width, reach), plans_within(many, reach, width))
            self.gives(plans_many(many), plans_within, many, 40, 40)
            self.gives(plans_many(many), plans_within, many, many, many)

    def test_at_the_capacity(self):
        found = 0
        for width in range(1, 7):
            for reach in range(1, 41):
                most = choose(width + reach, reach)
                for many in (most - 1, most, most + 1, most + 5):
                    if many <= 20:
                        self.gives(1 if many == most - 1 else 0, plans_within, many, width, reach)
                        found += 1
                if 2 <= most <= 21:
                    self.assertGreater(plans_within(most - 2, width, reach), 0)
        self.assertGreater(found, 50)
        for many in (20, 19):
            self.gives(0, plans_within, many, 3, 3 if many == 20 else 2)

    def test_great_widths_and_reaches(self):
        self.gives(plans_many(20), plans_within, 20, GREAT, GREAT)
        self.gives(1, plans_within, 20, GREAT, 1)
        self.gives(1, plans_within, 20, 1, GREAT)

    def test_refusals(self):
        bad = bound_samples.NO_NUMBERS
        self.refuses_each(plans_many, (3,), {"many": bad})
        self.refuses_each(plans_within, (3, 2, 2), {"many": bad, "width": bad, "reach": bad})


class Numbering(Case):
    def test_by_hand(self):
        for number, bases in enumerate(((0, 1, 2), (0, 1, 1), (0, 0, 2), (0, 1, 0), (0, 0, 0))):
            self.gives(bases, plan_at, 3, number)
            self.gives(number, plan_number, bases)
        self.gives(0, plan_number, ())
        self.gives((), plan_at, 0, 0)
        self.gives(0, plan_number, (0,))

    def test_in_the_stated_order(self):
        for many in range(8):
            told = plain_lines.in_order(many)
            self.same(sorted(told), sorted(plain_lines.all_plans(many)))
            for number, bases in enumerate(told):
                self.gives(number, plan_number, bases)
                self.gives(bases, plan_at, many, number)
            self.refuses("number", plan_at, many, len(told))
            self.refuses("number", plan_at, many, len(told) + 1)

    def test_larger_plans(self):
        for bases in line_samples.plans(0, 40):
            number = self.answer(plan_number, bases)
            self.gives(bases, plan_at, len(bases), number)

    def test_any_numbers(self):
        source = samples.chance("plan_at")
        for many in range(8, 21):
            most = plans_many(many)
            for number in (0, 1, most // 2, most - 2, most - 1, source.randrange(most), source.randrange(most)):
                bases = self.answer(plan_at, many, number)
                self.assertTrue(plain_lines.is_line_plan(bases) and len(bases) == many)
                self.gives(number, plan_number, bases)
            self.same(plan_at(many, 0), tuple(range(many)))
            self.same(plan_at(many, most - 1), (0,) * many)
            for bad in (most, most + 1, GREAT):
                self.refuses("number", plan_at, many, bad)

    def test_the_cut_counts_first(self):
        for many in (3, 6):
            told = [plan_at(many, number) for number in range(plans_many(many))]
            cuts = [plain_lines.cut(bases) for bases in told]
            self.assertEqual(cuts, sorted(cuts))
            self.same(max(line_reads(told[0])), many)
            self.same(max(line_writes(told[-1])), many)

    def test_refusals(self):
        self.refuses_each(plan_at, (3, 4), {
            "many": bound_samples.NO_NUMBERS, "number": bound_samples.NO_NUMBERS + (5, 6, GREAT),
        })
        for bad in line_samples.NO_PLANS:
            self.refuses("bases", plan_number, bad)
