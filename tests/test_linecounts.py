"""[54] The parts of line plans, their reads and writes; what [G7] says of these."""
from sincemarks.linecounts import cut_of, joined_plans, line_reads, line_writes, parts_of
from tests import line_samples, plain, plain_lines, plain_stores, samples, store_samples
from tests.cases import Case


class Parts(Case):
    def test_by_hand(self):
        self.gives((0, 1, 0, 3, 3), joined_plans, (0, 1), (0, 0))
        self.gives(2, cut_of, (0, 0, 2))
        self.gives(((0, 1), (0, 0)), parts_of, (0, 1, 0, 3, 3))
        self.gives((0,), joined_plans, (), ())
        self.gives((0, 1), joined_plans, (), (0,))
        self.gives((0, 0), joined_plans, (0,), ())
        self.gives(1, cut_of, (0, 1, 2))
        self.gives(3, cut_of, (0, 0, 0))
        self.gives(((), (0, 1)), parts_of, (0, 1, 2))

    def test_all_plans_of_up_to_seven(self):
        for many in range(1, 8):
            for bases in plain_lines.all_plans(many):
                self.looked_at(bases)

    def looked_at(self, bases):
        self.gives(plain_lines.cut(bases), cut_of, bases)
        ahead, behind = plain_lines.parts(bases)
        self.gives((ahead, behind), parts_of, bases)
        self.gives(bases, joined_plans, ahead, behind)
        self.assertTrue(plain_lines.is_line_plan(ahead) and plain_lines.is_line_plan(behind))

    def test_larger_plans(self):
        for bases in line_samples.plans(0, 40):
            if bases:
                self.looked_at(bases)

    def test_any_two(self):
        told = list(line_samples.plans(3, 4, 9))
        for one in told:
            for other in told:
                bases = self.answer(joined_plans, one, other)
                self.assertTrue(plain_lines.is_line_plan(bases))
                self.gives((one, other), parts_of, bases)
                self.same(len(bases), len(one) + len(other) + 1)

    def test_refusals(self):
        wrongs = {"one": line_samples.NO_PLANS, "other": line_samples.NO_PLANS}
        self.refuses_each(joined_plans, ((0, 1), (0, 0)), wrongs)
        for bad in line_samples.NO_PLANS + ((),):
            self.refuses("bases", cut_of, bad)
            self.refuses("bases", parts_of, bad)


class Counts(Case):
    def looked_at(self, bases):
        self.gives(plain_lines.reads(bases), line_reads, bases)
        self.gives(plain_lines.writes(bases), line_writes, bases)

    def test_by_hand(self):
        self.gives((0, 1, 2, 1, 2, 2), line_reads, (0, 1, 0, 3, 3))
        self.gives((2, 2, 1, 2, 1), line_writes, (0, 1, 0, 3, 3))
        self.gives((0,), line_reads, ())
        self.gives((), line_writes, ())

    def test_plans(self):
        for bases in line_samples.plans(6, 20):
            self.looked_at(bases)

    def test_refusals(self):
        for bad in line_samples.NO_PLANS:
            self.refuses("bases", line_reads, bad)
            self.refuses("bases", line_writes, bad)


class Guarantees(Case):
    def are_at_least(self, counts, least):
        self.assertTrue(all(one <= other for one, other in zip(least, sorted(counts))), (counts, least))

    def test_the_least_counts_of_plans(self):
        for many in range(1, 8):
            for reach in range(1, many + 1):
                least = plain_lines.least_counts(many, reach)
                by_reads, by_writes = set(), set()
                for bases in plain_lines.all_plans(many):
                    if max(line_reads(bases)) <= reach:
                        by_reads.add(tuple(sorted(line_writes(bases))))
                        self.are_at_least(line_writes(bases), least)
                    if max(line_writes(bases)) <= reach:
                        by_writes.add(tuple(sorted(line_reads(bases)[1:])))
                        self.are_at_least(line_reads(bases)[1:], least)
                # Some plan has just these.
                self.assertIn(least, by_reads)
                self.assertIn(least, by_writes)

    def test_the_least_counts_on_the_paths_of_right_stores(self):
        for history in samples.SMALL[2::3] + samples.LARGE[:3] + samples.LARGE[12:14]:
            for store in store_samples.right_stores(history, 2):
                writes, reads = plain_stores.writes(history, store), plain_stores.reads(store)
                for version in range(1, len(history) + 1):
                    path = plain.path(history, version)
                    own_writes, own_reads = [writes[v - 1] for v in path], [reads[v] for v in path]
                    for one, other in ((own_writes, own_reads), (own_reads, own_writes)):
                        self.are_at_least(one, plain_lines.least_counts(len(path), max(other)))
