"""[58] Plans that stay while the line grows."""
from sincemarks.growing import grown_base, grown_chain, grown_greatest, grown_holders, grown_plan, grown_writes
from sincemarks.leastcounts import least_greatest
from tests import bound_samples, plain_bounds, plain_lines, plain_stores, samples
from tests.cases import Case
from tests.samples import GREAT


def great_pairs(reach):
    """Changes and tips of thirty figures, near to each other and far apart."""
    source = samples.chance("growing", reach)
    yield from ((1, GREAT), (GREAT, GREAT), (GREAT - 1, GREAT), (10 ** 15, GREAT), (1, 10 ** 20))
    for _ in range(12):
        tip = source.randint(1, 10 ** source.randint(2, 30) - 1)
        yield source.choice((source.randint(1, tip), max(1, tip - source.randint(0, 50)), source.randint(1, min(tip, 9)))), tip


class Plans(Case):
    def test_by_hand(self):
        self.gives((0, 1, 0, 3, 3, 0), grown_plan, 2, 6)
        self.gives((0, 0, 0, 0), grown_plan, 1, 4)
        self.gives((0, 1, 2, 0), grown_plan, 3, 4)
        self.gives(0, grown_base, 2, 6)
        self.gives((5, 3), grown_chain, 2, 5)
        self.gives((), grown_plan, 2, 0)
        self.gives((), grown_chain, 2, 0)
        self.gives((6,), grown_chain, 2, 6)

    def test_against_the_base_of_each_version(self):
        for reach in (*range(1, 7), 13, 40):
            plan = plain_lines.grown_plan(reach, 100)
            self.gives(plan, grown_plan, reach, 100)
            for version, base in enumerate(plan, start=1):
                self.gives(base, grown_base, reach, version)
                self.gives(plain_stores.chain(plan, version), grown_chain, reach, version)
            self.gives((), grown_chain, reach, 0)
            for many in (0, 1, 2, 20, 99):
                self.gives(plan[:many], grown_plan, reach, many)

    def test_they_are_line_plans_with_no_reads_above(self):
        for reach in (1, 2, 3, 5, 40):
            for many in (0, 1, 7, 20, 60):
                plan = grown_plan(reach, many)
                self.assertTrue(plain_lines.is_line_plan(plan))
                self.assertLessEqual(max(plain_lines.reads(plan)), reach)

    def test_thirty_figures(self):
        for reach in (1, 2, 3, 10, 39, 40):
            for _, number in great_pairs(reach):
                row = plain_bounds.row_of(reach, number)
                self.gives(plain_bounds.number_of(reach, row[:-1]), grown_base, reach, number)
                chain = self.answer(grown_chain, reach, number)
                self.same(chain[0], number)
                self.same(len(chain), len(row))
                for one, other in zip(chain, chain[1:] + (0,)):
                    self.same(grown_base(reach, one), other)

    def test_refusals(self):
        bad, none = bound_samples.NO_NATURALS, bound_samples.NO_NUMBERS
        self.refuses_each(grown_base, (2, 6), {"reach": bad, "number": bad})
        self.refuses_each(grown_chain, (2, 6), {"reach": bad, "number": none})
        self.refuses_each(grown_plan, (2, 6), {"reach": bad, "many": none})
        self.refuses_each(grown_greatest, (2, 6), {"reach": bad, "tip": none})


class Counts(Case):
    def test_by_hand(self):
        self.gives(1, grown_writes, 2, 3, 4)
        self.gives(99999999999999999996, grown_writes, 1, 5, 10 ** 20)
        self.gives((1, 3, 6, 10), grown_holders, 2, 1, 10 ** 20, 4)
        self.gives(3, grown_greatest, 2, 6)
        self.gives(0, grown_greatest, 2, 0)
        self.gives((GREAT,), grown_holders, 40, GREAT, GREAT, 100)
        self.gives(1, grown_writes, 1, GREAT, GREAT)

    def test_against_the_plain_counts_of_the_plan(self):
        for reach in (1, 2, 3, 4, 8, 40):
            for tip in (*range(1, 13), 19, 20, 21, 45, 100):
                plan = plain_lines.grown_plan(reach, tip)
                writes = plain_lines.writes(plan)
                self.gives(max(writes), grown_greatest, reach, tip)
                for change in {1, 2, 3, tip // 2, tip - 1, tip} - {0}:
                    if change > tip:
                        continue
                    self.gives(writes[change - 1], grown_writes, reach, change, tip)
                    holders = tuple(v for v in range(1, tip + 1) if plan[v - 1] < change <= v)
                    for many in {0, 1, 2, len(holders) - 1, len(holders), len(holders) + 1, 100}:
                        self.gives(holders[:many], grown_holders, reach, change, tip, many)

    def test_thirty_figures(self):
        for reach in (1, 2, 3, 7, 25, 40):
            for change, tip in great_pairs(reach):
                self.looked_at(reach, change, tip)

    def looked_at(self, reach, change, tip):
        ahead, end = (
            (plain_bounds.row_of(reach, number) + (0,) * reach)[:reach] for number in (change - 1, tip)
        )
        place = next(k for k in range(reach) if ahead[k] != end[k])
        writes = self.answer(grown_writes, reach, change, tip)
        self.same(writes, end[place] - ahead[-1])
        self.assertLessEqual(writes, grown_greatest(reach, tip))
        holders = self.answer(grown_holders, reach, change, tip, 100)
        self.same(len(holders), min(100, writes))
        self.same(holders[0], change)
        self.same(holders, tuple(sorted(set(holders))))
        self.assertTrue(all(grown_base(reach, v) < change <= v <= tip for v in holders))
        # None is left out between two of them: what lies there has its base behind the change.
        for one, other in zip(holders, holders[1:]):
            for between in {one + 1, other - 1, (one + other) // 2} - {one, other}:
                self.assertGreaterEqual(grown_base(reach, between), change)
        for many in (0, 1, 3, 99):
            self.gives(holders[:many], grown_holders, reach, change, tip, many)

    def test_the_greatest(self):
        for reach in (1, 2, 3, 40):
            for tip in (0, 1, 2, 5, 41, 100, 10 ** 20, GREAT):
                self.gives(least_greatest(tip, reach), grown_greatest, reach, tip)

    def test_a_change_above_the_tip(self):
        for change, tip in ((1, 0), (2, 1), (7, 6), (GREAT, GREAT - 1), (GREAT, 1)):
            self.refuses("tip", grown_writes, 2, change, tip)
            self.refuses("tip", grown_holders, 2, change, tip, 4)
            self.refuses("tip", grown_holders, 2, change, tip, -1)

    def test_refusals(self):
        bad, none = bound_samples.NO_NATURALS, bound_samples.NO_NUMBERS
        wrongs = {"reach": bad, "change": bad, "tip": none + (0, 1, 2), "many": none}
        self.refuses_each(grown_writes, (2, 3, 4), wrongs)
        self.refuses_each(grown_holders, (2, 3, 4, 5), wrongs)
