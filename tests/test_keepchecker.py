"""[40] Papers that tell whether bounds can be kept, and their checker."""
from sincemarks.keepchecker import lets_keep
from sincemarks.keeppapers import keep_paper
from sincemarks.walks import can_keep
from sincemarks.walls import rows_on, wall_in, walled
from tests import bound_samples, plain_bounds, plain_stores, samples, store_samples
from tests.cases import Case
from tests.samples import GREAT

STEEP = plain_bounds.level(samples.LINE, 1, 2)
LEVEL = plain_bounds.level(samples.LINE, 2, 2)
SHORT, TIGHT = (0, 1), (2, ((1, 2), (1, 1)))
ENTRIES = ((3, (1,)), (2, (2,)), (1, (3,)))
TWOS = (0, 1, 0, 3, 3)


def told_bounds(step=2):
    for history in samples.SMALL[1::2] + samples.LARGE[:4]:
        for bounds in list(bound_samples.some_bounds(history, 1))[::step]:
            yield history, bounds


class Papers(Case):
    def looked_at(self, history, bounds):
        paper = self.answer(keep_paper, history, bounds)
        self.same(type(paper), tuple)
        kept = can_keep(history, bounds)
        self.same(paper[0], "plan" if kept else "wall")
        self.gives(kept, lets_keep, history, bounds, paper)
        self.same(plain_bounds.paper_fault(history, bounds, paper), None)

    def test_by_hand(self):
        self.same(lets_keep(samples.LINE, STEEP, keep_paper(samples.LINE, STEEP)), False)
        self.same(keep_paper((), (1, ())), ("plan", ()))
        self.gives(True, lets_keep, (), (1, ()), ("plan", ()))

    def test_they_are_accepted(self):
        for history, bounds in told_bounds(1):
            self.looked_at(history, bounds)

    def test_small_bounds(self):
        for history, bounds in list(bound_samples.small_bounds())[::9]:
            self.looked_at(history, bounds)

    def test_forty(self):
        for history in bound_samples.FORTY + samples.LARGE[4::4]:
            for bounds in bound_samples.some_bounds(history, 1):
                self.looked_at(history, bounds)

    def test_no_bounds_have_both(self):
        for history in samples.SMALL[1:10]:
            for bounds in list(bound_samples.all_bounds(history, 2, 2))[::3]:
                plans = [
                    bases for bases in plain_stores.all_bases(history)
                    if plain_bounds.paper_fault(history, bounds, ("plan", bases)) is None
                ]
                walls = [versions for versions in samples.subsets(history) if walled(history, bounds, versions)]
                self.same(bool(plans), not walls)
                for bases in plans:
                    self.gives(True, lets_keep, history, bounds, ("plan", bases))

    def test_the_rows_of_each_wall_are_a_paper(self):
        for history, bounds in told_bounds():
            for versions in samples.subsets(history, 6):
                paper = ("wall", rows_on(history, bounds, versions))
                if versions and walled(history, bounds, versions):
                    self.gives(False, lets_keep, history, bounds, paper)
                else:
                    fault = ("roof", -1) if versions else ("wall", 1)
                    self.fails("InvalidPaper", fault, lets_keep, history, bounds, paper)

    def test_refusals(self):
        for history in (SHORT, samples.WIDE):
            bad = bound_samples.bad_bounds(history)
            self.refuses_each(keep_paper, (history, plain_bounds.level(history, 2, 2)), {"bounds": bad})
            for bounds in bad:
                for thing in (("plan", history), None, ("wall", ())):
                    self.refuses("bounds", lets_keep, history, bounds, thing)


class Checking(Case):
    def looked_at(self, history, bounds, thing):
        fault = plain_bounds.paper_fault(history, bounds, thing)
        if fault is None:
            self.gives(thing[0] == "plan", lets_keep, history, bounds, thing)
        else:
            self.fails("InvalidPaper", fault, lets_keep, history, bounds, thing)
        return fault

    def test_shapes(self):
        for thing in samples.ANY + (
            ("plan",), ("wall",), ("plan", TWOS, 1), ["plan", TWOS], ("Plan", TWOS), ("walls", ENTRIES), (TWOS, "plan"),
            ("", ENTRIES), (None, ENTRIES), (("plan",), TWOS), (True, TWOS), ("plan\n", TWOS), ({}, TWOS),
        ):
            self.fails("InvalidPaper", ("shape", -1), lets_keep, samples.LINE, STEEP, thing)

    def test_plans(self):
        for thing, fault in (
            (TWOS, None), ((0, 0, 0, 0, 0), ("writes", 1)), ((0, 1, 2, 3, 4), ("reads", 3)),
            ((0, 1, 1, 0, 0), ("writes", 1)), ((0, 0, 0, 3, 4), ("writes", 1)), ((0, 1, 0, 2, 2), ("plan", 1)),
            ((0, 1, 0, 3), ("plan", 1)), ([0, 1, 0, 3, 3], ("plan", 1)), (None, ("plan", 1)), ((), ("plan", 1)),
            ((0, True, 0, 3, 3), ("plan", 1)), ((False, 1, 0, 3, 3), ("plan", 1)), (ENTRIES, ("plan", 1)),
            ((0, 1, 0, 3, 5), ("plan", 1)), ("01033", ("plan", 1)),
        ):
            self.same(self.looked_at(samples.LINE, LEVEL, ("plan", thing)), fault)

    def test_a_plan_that_breaks_a_write_and_a_read(self):
        # The writes are 3, 2, 2, 1, 1; versions 3 and 5 read two sheets, the others one.
        for pairs, fault in (
            (((3, 2), (2, 2), (2, 2), (1, 1), (1, 2)), None), (((2, 2), (9, 2), (9, 1), (9, 1), (9, 1)), ("writes", 1)),
            (((9, 2), (1, 2), (1, 1), (9, 1), (9, 1)), ("writes", 2)), (((3, 2), (9, 2), (1, 1), (9, 1), (9, 1)), ("writes", 3)),
            (((3, 2), (2, 2), (2, 1), (1, 1), (1, 1)), ("reads", 3)), (((3, 2), (2, 2), (2, 2), (1, 1), (1, 1)), ("reads", 5)),
        ):
            self.same(self.looked_at(samples.LINE, (2, pairs), ("plan", (0, 0, 2, 0, 4))), fault)
        # Writes come first, though a lesser version reads too much.
        bounds = (1, ((9, 1), (9, 1), (9, 1), (9, 1), (1, 1)))
        self.same(self.looked_at(samples.LINE, bounds, ("plan", (0, 1, 0, 0, 0))), ("reads", 2))
        bounds = (1, ((9, 1), (9, 1), (9, 1), (1, 1), (1, 1)))
        self.same(self.looked_at(samples.LINE, bounds, ("plan", (0, 1, 0, 0, 0))), ("writes", 4))

    def test_all_bases_as_papers(self):
        found = set()
        for history in samples.SMALL[2:]:
            for bounds in list(bound_samples.some_bounds(history, 1))[1:8:2]:
                for bases in list(plain_stores.all_bases(history))[::2]:
                    fault = self.looked_at(history, bounds, ("plan", bases))
                    found.add(fault and fault[0])
        self.assertEqual(found, {None, "plan", "writes", "reads"})

    def test_no_bases(self):
        for history in ((0,), SHORT, samples.WIDE):
            for bad in store_samples.no_bases(history):
                fault = self.looked_at(history, plain_bounds.level(history, 9, 9), ("plan", bad))
                self.same(fault, ("plan", 1))

    def test_walls(self):
        for thing, fault in (
            (ENTRIES, None), ((), ("wall", 1)), ([], ("wall", 1)), (list(ENTRIES), ("wall", 1)), (None, ("wall", 1)),
            ("wall", ("wall", 1)), (0, ("wall", 1)), (True, ("wall", 1)),
            ((None,), ("entry", 0)), (((3,),), ("entry", 0)), (((3, (1,), 1),), ("entry", 0)), (([3, (1,)],), ("entry", 0)),
            (((6, (1,)),), ("entry", 0)), (((0, (1,)),), ("entry", 0)), (((-1, (1,)),), ("entry", 0)),
            (((True, (1,)),), ("entry", 0)), ((("3", (1,)),), ("entry", 0)), (((None, None),), ("entry", 0)),
            (((3, (2,)),), ("row", 0)), (((3, ()),), ("row", 0)), (((3, (1, 1)),), ("row", 0)), (((3, [1]),), ("row", 0)),
            (((3, (True,)),), ("row", 0)), (((3, None),), ("row", 0)), (((3, 1),), ("row", 0)), (((3, ((1,),)),), ("row", 0)),
            (ENTRIES[:1] + ((3, (1,)),), ("entry", 1)), (ENTRIES[:1] + ((4, (2,)),), ("entry", 1)),
            (ENTRIES[:1] + ((2, (1,)),), ("row", 1)), (ENTRIES[:2] + ((1, (2,)),), ("row", 2)),
            (ENTRIES[:2] + ((2, (3,)),), ("entry", 2)), (ENTRIES[:2], ("roof", -1)), (ENTRIES[:1], ("roof", -1)),
            (ENTRIES[1:], ("row", 0)), (ENTRIES[::-1], ("row", 0)), (ENTRIES + ((1, (3,)),), ("entry", 3)),
            (ENTRIES + (None,), ("entry", 3)), (((5, (1,)), (4, (2,)), (2, (3,)), (1, (4,))), None),
        ):
            self.same(self.looked_at(samples.LINE, STEEP, ("wall", thing)), fault)

    def test_true_is_not_1(self):
        one = plain_bounds.level((0, 1), 1, 1)
        self.same(self.looked_at(SHORT, one, ("wall", ((2, (1,)), (1, (2,))))), None)
        self.same(self.looked_at(SHORT, one, ("wall", ((2, (True,)), (1, (2,))))), ("row", 0))
        self.same(self.looked_at(SHORT, one, ("wall", ((2, (1,)), (True, (2,))))), ("entry", 1))
        wide = (1, ((2, 1), (1, 1)))
        self.same(self.looked_at(SHORT, wide, ("wall", ((2, (1,)), (1, (1, 1))))), ("roof", -1))
        self.same(self.looked_at(SHORT, wide, ("wall", ((2, (1,)), (1, (1, True))))), ("row", 1))
        self.same(self.looked_at(SHORT, wide, ("wall", ((2, (1,)), (1, (True, 1))))), ("row", 1))

    def test_the_nearest_elder_among_the_elements_counts(self):
        # Version 4 is handed to 2, not to 1, which comes later.
        bounds = plain_bounds.level((0, 1, 1, 2), 1, 1)
        paper = ((4, (1,)), (3, (1,)), (2, (2,)), (1, (3,)))
        self.same(self.looked_at((0, 1, 1, 2), bounds, ("wall", paper)), None)
        self.same(self.looked_at((0, 1, 1, 2), bounds, ("wall", ((4, (1,)), (1, (2,))))), None)
        self.same(self.looked_at((0, 1, 1, 2), bounds, ("wall", ((4, (1,)), (3, (1,)), (1, (2,))))), None)
        self.same(self.looked_at((0, 1, 1, 2), bounds, ("wall", ((4, (1,)), (3, (1,)), (2, (1,))))), ("row", 2))

    def bent(self, entries, source):
        """The entries with one of them changed, doubled, left out, or two of them exchanged."""
        k = source.randrange(len(entries))
        version, row = entries[k]
        choices = (
            (), (entries[k],) * 2, entries[:k][-1:], ((version + 1, row),), ((version - 1, row),), ((version, row[:-1]),),
            ((version, row + (1,)),), ((version, row[:-1] + (row[-1] + 1,)),), ((version, (row[0] + 1,) + row[1:]),),
            ((version, list(row)),), ([version, row],), (None,), ((version, tuple(m == 1 or m for m in row)),),
            ((version == 1 or version, row),), ((version, row, row),), ((GREAT, row),), ((version, (GREAT,)),),
        )
        return entries[:k] + source.choice(choices) + entries[k + 1:]

    def test_bent_papers(self):
        found = set()
        for history, bounds in told_bounds():
            if can_keep(history, bounds):
                continue
            source = samples.chance("bent", history, bounds)
            entries = keep_paper(history, bounds)[1]
            for times in (1, 1, 1, 1, 1, 2, 2, 3):
                thing = entries
                for _ in range(times):
                    thing = self.bent(thing, source) if thing and None not in thing else thing
                    if not all(type(e) is tuple and len(e) == 2 and plain_bounds.is_row(e[1]) and e[1] for e in thing):
                        break
                fault = self.looked_at(history, bounds, ("wall", thing))
                found.add(fault and fault[0])
        self.assertEqual(found, {None, "wall", "entry", "row", "roof"})

    def test_papers_of_other_bounds(self):
        for history in samples.SMALL[5::5] + samples.LARGE[:3]:
            told = list(bound_samples.some_bounds(history, 1))[::2]
            for bounds in told:
                for other in told:
                    self.looked_at(history, other, keep_paper(history, bounds))

    def test_values_of_any_sort(self):
        for thing in samples.ANY:
            for history, bounds in (((0,), (1, ((1, 1),))), (SHORT, TIGHT), ((), (1, ()))):
                self.looked_at(history, bounds, ("plan", thing))
                self.looked_at(history, bounds, ("wall", thing))
                self.looked_at(history, bounds, ("wall", (thing,)))
                self.looked_at(history, bounds, ("wall", ((thing, (1,)),)))
                self.looked_at(history, bounds, ("wall", ((1, thing),)))

    def test_long_things(self):
        line = tuple(range(40))
        bounds = plain_bounds.level(line, 1, 39)
        entries = rows_on(line, bounds, wall_in(line, bounds))
        self.same(len(entries), 40)
        self.same(self.looked_at(line, bounds, ("wall", entries)), None)
        self.same(self.looked_at(line, bounds, ("wall", entries * 40)), ("entry", 40))
        self.same(self.looked_at(line, bounds, ("wall", ((40, (1,) * 4000),))), ("row", 0))
        self.same(self.looked_at(line, bounds, ("plan", tuple(range(4000)))), ("plan", 1))
