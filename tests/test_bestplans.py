"""Line plans with the least counts."""
from sincemarks.bestplans import best_for_writes, best_plan, full_plan
from tests import bound_samples, plain_bounds, plain_lines
from tests.cases import Case
from tests.sheet_samples import NO_NUMBERS

# All pairs of a width and a reach with at most twenty changes in the full plan.
PAIRS = [
    (width, reach) for width in range(1, 21) for reach in range(1, 21) if plain_bounds.capacity(width, reach) <= 21
]


class Full(Case):
    def test_by_hand(self):
        self.gives((0, 1, 0, 3, 3), full_plan, 2, 2)
        self.gives((0, 1, 2), full_plan, 1, 3)
        self.gives((0, 0, 0), full_plan, 3, 1)
        self.gives((0,), full_plan, 1, 1)
        self.gives((0, 1), full_plan, 1, 2)

    def test_within_and_as_long_as_told(self):
        self.assertGreater(len(PAIRS), 40)
        for width, reach in PAIRS:
            plan = self.answer(full_plan, width, reach)
            self.assertTrue(plain_lines.is_line_plan(plan), plan)
            self.assertEqual(len(plan), plain_bounds.capacity(width, reach) - 1)
            self.assertEqual(max(plain_lines.writes(plan)), width)
            self.assertEqual(max(plain_lines.reads(plan)), reach)

    def test_the_only_one(self):
        for width, reach in PAIRS:
            many = plain_bounds.capacity(width, reach) - 1
            if many <= 7:
                within = [
                    plan for plan in plain_lines.all_plans(many)
                    if max(plain_lines.writes(plan)) <= width and max(plain_lines.reads(plan)) <= reach
                ]
                self.assertEqual(within, [self.answer(full_plan, width, reach)])

    def test_either_way_round(self):
        for width, reach in PAIRS:
            plan, turned = full_plan(width, reach), full_plan(reach, width)
            self.same(plain_lines.reads(plan)[1:], plain_lines.writes(turned)[::-1])
            self.same(plain_lines.writes(plan), plain_lines.reads(turned)[:0:-1])

    def test_refusals(self):
        self.refuses_each(full_plan, (2, 2), {
            "width": bound_samples.NO_NATURALS, "reach": bound_samples.NO_NATURALS,
        })


class Best(Case):
    def test_by_hand(self):
        self.gives((0, 0), best_plan, 2, 1)
        self.gives((0, 1), best_plan, 2, 2)
        self.gives((), best_plan, 0, 1)
        self.gives((0, 1), best_for_writes, 2, 1)
        self.gives((0, 0), best_for_writes, 2, 2)
        self.gives((), best_for_writes, 0, 3)
        self.gives((0, 1, 0, 3, 3), best_plan, 5, 2)
        self.gives((0, 1, 0, 3, 3), best_for_writes, 5, 2)

    def test_best_plan(self):
        for many in range(21):
            for reach in (*range(1, 9), 19, 20, 21, 39, 40):
                plan = self.answer(best_plan, many, reach)
                self.assertTrue(plain_lines.is_line_plan(plan), (many, reach))
                self.assertEqual(len(plan), many)
                self.assertLessEqual(max(plain_lines.reads(plan)), reach)
                self.same(tuple(sorted(plain_lines.writes(plan))), plain_lines.least_counts(many, reach))

    def test_best_for_writes(self):
        for many in range(21):
            for width in (*range(1, 9), 19, 20, 21, 39, 40):
                plan = self.answer(best_for_writes, many, width)
                self.assertTrue(plain_lines.is_line_plan(plan), (many, width))
                self.assertEqual(len(plan), many)
                self.assertLessEqual(max(plain_lines.writes(plan), default=0), width)
                self.same(tuple(sorted(plain_lines.reads(plan)[1:])), plain_lines.least_counts(many, width))

    def test_each_bound(self):
        for bound in range(1, 41):
            self.same(tuple(sorted(plain_lines.writes(best_plan(12, bound)))), plain_lines.least_counts(12, bound))
            reads = plain_lines.reads(best_for_writes(12, bound))[1:]
            self.same(tuple(sorted(reads)), plain_lines.least_counts(12, bound))

    def test_least_among_all_plans(self):
        # Place by place no plan with such reads has less.
        for many in range(7):
            for reach in range(1, 5):
                best = sorted(plain_lines.writes(best_plan(many, reach)))
                for plan in plain_lines.all_plans(many):
                    if max(plain_lines.reads(plan)) <= reach:
                        self.assertTrue(all(a <= b for a, b in zip(best, sorted(plain_lines.writes(plan)))), plan)

    def test_refusals(self):
        self.refuses_each(best_plan, (3, 2), {"many": NO_NUMBERS, "reach": bound_samples.NO_NATURALS})
        self.refuses_each(best_for_writes, (3, 2), {"many": NO_NUMBERS, "width": bound_samples.NO_NATURALS})
        self.refuses("many", best_for_writes, -1, 0)
        self.refuses("width", best_for_writes, 0, 0)
        self.refuses("reach", best_plan, 0, 0)
