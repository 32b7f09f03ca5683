"""Line plans as objects."""
import inspect

from sincemarks.errors import NotUsable
from sincemarks.historyclasses import Told
from sincemarks.lineclasses import Grown, Line
from sincemarks.storeclasses import Based
from tests import bound_samples, line_samples, plain_lines, plain_stores, samples
from tests.cases import Case
from tests.sheet_samples import NO_NUMBERS
from tests.test_traffics import NO_COSTS, some_numbers, traffic


class Held(Case):
    def looked_at(self, line, bases):
        """What the object tells is what is told of this line plan."""
        self.gives(bases, line.plan)
        self.gives(plain_lines.track(bases), line.track)
        self.gives(plain_lines.reads(bases), line.reads)
        self.gives(plain_lines.writes(bases), line.writes)
        chains = [plain_stores.chain(bases, version) for version in range(len(bases) + 1)]
        self.gives(chains[1:], line.line_chains)
        for version, chain in enumerate(chains):
            self.gives(chain, line, version)
        self.same(line == Line(bases), True)


class Lines(Held):
    def test_by_hand(self):
        line = Line((0, 1, 0, 3, 3))
        self.gives("++-+--++---", line.track)
        self.gives((0, 1, 2, 1, 2, 2), line.reads)
        self.gives((2, 2, 1, 2, 1), line.writes)
        self.gives(4, Line((0, 0, 0)).place)
        self.gives([(1,), (2, 1), (3,), (4, 3), (5, 3)], line.line_chains)
        self.gives((5, 3), line, 5)
        self.gives((), line, 0)
        self.same(line.parts() == (Line((0, 1)), Line((0, 0))), True)
        self.same(line.mirror() == line, True)
        self.same(Line((0, 0, 0)).mirror() == Line((0, 1, 2)), True)
        self.gives(15, Line((0, 1)).traffic, (3, 1), (1, 5))
        self.gives(True, line.fits, 2, 2)
        self.gives(False, line.fits, 2, 1)
        self.gives(False, line.fits, 1, 2)
        self.same([line.fits(2), line.fits(1), line.fits(width=2)], [True, False, True])
        self.same(Line.traced("+-++---") == Line((0, 1, 1)), True)

    def test_any(self):
        for bases in line_samples.plans(5):
            self.looked_at(self.answer(Line, bases), bases)

    def test_place(self):
        for many in range(6):
            for number, bases in enumerate(plain_lines.in_order(many)):
                self.gives(number, Line(bases).place)

    def test_mirror_and_parts(self):
        for bases in line_samples.plans(5):
            line = Line(bases)
            mirror = self.answer(line.mirror)
            self.assertIs(type(mirror), Line)
            self.same(plain_lines.tree(mirror.plan()), self.turned(plain_lines.tree(bases)))
            self.same(mirror.mirror() == line, True)
            if bases:
                parts = self.answer(line.parts)
                self.assertIs(type(parts), tuple)
                self.assertEqual([type(part) for part in parts], [Line, Line])
                self.same(tuple(part.plan() for part in parts), plain_lines.parts(bases))

    def turned(self, tree):
        return None if tree is None else (self.turned(tree[1]), self.turned(tree[0]))

    def test_parts_of_no_changes_and_of_one(self):
        self.refuses("bases", Line(()).parts)
        self.refuses("bases", Grown(3, 0).parts)
        self.same([part.plan() for part in Line((0,)).parts()], [(), ()])
        self.same(Line(()).mirror() == Line(()), True)
        self.same(Line(()).place(), 0)
        self.same(list(Line(()).line_chains()), [])

    def test_traffic(self):
        for bases in line_samples.plans(4, 4, 16):
            source = samples.chance("object traffic", bases)
            for greatest in (5, samples.GREAT):
                costs, asks = (some_numbers(len(bases), source, greatest) for _ in range(2))
                self.gives(traffic(bases, costs, asks), Line(bases).traffic, costs, asks)
        self.refuses_each(Line((0, 1, 0)).traffic, ((3, 1, 2), (1, 5, 0)), {
            "costs": NO_COSTS + ((3, 1), (3, 1, 2, 0)), "asks": NO_COSTS + ((1, 5), (1, 5, 0, 0)),
        })

    def test_fits(self):
        for bases in line_samples.plans(4, 3, 9):
            for line in (Line(bases), ):
                writes, reads = max(plain_lines.writes(bases), default=0), max(plain_lines.reads(bases))
                for width in (0, 1, 2, 3, writes, writes + 1, samples.GREAT):
                    for reach in (0, 1, 2, 3, reads, reads + 1, samples.GREAT):
                        self.gives(writes <= width and reads <= reach, line.fits, width, reach)
                    self.same(line.fits(width), writes <= width)

    def test_the_reach_by_itself(self):
        # As told: forty.
        line = Line(tuple(range(20)))
        self.same([line.fits(1), line.fits(1, reach=20), line.fits(1, reach=19)], [True, True, False])
        long = Line(tuple(range(41)))
        self.same([long.fits(1), long.fits(1, reach=41), Line(tuple(range(40))).fits(1)], [False, True, True])
        for call in (lambda: line.fits(1, 20), lambda: line.fits(), lambda: line.fits(1, 20, reach=20)):
            with self.assertRaises(TypeError):
                call()

    def test_fits_of_no_changes(self):
        self.same([Line(()).fits(0), Line(()).fits(0, reach=0), Line((0,)).fits(0), Line((0,)).fits(1, reach=0)],
                  [True, True, False, False])

    def test_fits_refuses(self):
        for line in (Line((0, 1, 0)), Line(()), Grown(2, 3)):
            self.refuses_each(line.fits, (2, 2), {"width": NO_NUMBERS, "reach": NO_NUMBERS})

    def test_a_generator(self):
        for line in (Line((0, 1, 0)), Grown(2, 3), Line(())):
            self.assertTrue(inspect.isgenerator(line.line_chains()))
        line = Line((0, 1, 0))
        one, other = line.line_chains(), line.line_chains()
        self.same([next(one), next(one), next(other), next(one), next(other)], [(1,), (2, 1), (1,), (3,), (2, 1)])
        with self.assertRaises(StopIteration):
            next(one)

    def test_versions(self):
        for bases in line_samples.plans(3, 2, 9):
            line = Line(bases)
            for bad in samples.no_versions(bases):
                self.refuses("version", line, bad)
            self.gives((), line, 0)

    def test_traced(self):
        for bases in line_samples.plans(4, 3, 20):
            track = plain_lines.track(bases)
            for asked in (Line.traced, Line(()).traced, Line((0, 0)).traced, Grown.traced, Grown(2, 5).traced):
                line = asked(track)
                self.assertIs(type(line), Line)
                self.same(line.plan(), bases)
                self.same(asked(track=track) == line, True)
        for bad in line_samples.NO_TRACKS:
            self.refuses("track", Line.traced, bad)
            for asked in (Line((0,)).traced, Grown(1, 1).traced):
                with self.assertRaises(NotUsable) as caught:
                    asked(bad)
                self.same((caught.exception.word, caught.exception.at), ("track", -1))

    def test_making(self):
        self.refuses_each(Line, ((0, 1, 0),), {"bases": line_samples.NO_PLANS})


class Growing(Held):
    def test_as_told(self):
        for reach in (1, 2, 3, 5, 40):
            for many in (0, 1, 2, 6, 13, 20):
                line = self.answer(Grown, reach, many)
                self.assertIsInstance(line, Line)
                self.looked_at(line, plain_lines.grown_plan(reach, many))

    def test_grow(self):
        for reach in (1, 2, 3, 7, 40):
            line = Grown(reach, 0)
            for many in range(1, 21):
                bases = plain_lines.grown_plan(reach, many)
                self.same(line.grow(), bases[-1])
                self.gives(bases, line.plan)
            self.looked_at(line, bases)

    def test_what_was_told_ahead_stays(self):
        line = Grown(2, 4)
        plan, reads, mirror, parts = line.plan(), line.reads(), line.mirror(), line.parts()
        chain, chains, traced = line(4), list(line.line_chains()), line.traced("+--")
        self.same(line.grow(), 3)
        self.same(line.grow(), 0)
        self.same([plan, reads, chain], [(0, 1, 0, 3), (0, 1, 2, 1, 2), (4, 3)])
        self.same([mirror.plan(), [part.plan() for part in parts]], [(0, 0, 2, 2), [(0, 1), (0,)]])
        self.same([chains, traced.plan()], [[(1,), (2, 1), (3,), (4, 3)], (0,)])
        self.looked_at(line, (0, 1, 0, 3, 3, 0))

    def test_a_generator_goes_on_with_what_has_grown(self):
        line = Grown(2, 2)
        chains = line.line_chains()
        self.same([next(chains), next(chains)], [(1,), (2, 1)])
        line.grow()
        self.same(next(chains), (3,))
        self.same(list(chains), [])

    def test_mirror_and_parts_do_not_grow(self):
        line = Grown(2, 5)
        self.assertEqual([type(line.mirror()), *[type(part) for part in line.parts()]], [Line, Line, Line])
        self.assertFalse(hasattr(line.mirror(), "grow"))

    def test_versions_that_come(self):
        line = Grown(3, 2)
        self.refuses("version", line, 3)
        line.grow()
        self.gives(plain_stores.chain(plain_lines.grown_plan(3, 3), 3), line, 3)

    def test_apart(self):
        one, other = Grown(2, 3), Grown(2, 3)
        one.grow()
        self.same([len(one.plan()), len(other.plan()), one == other], [4, 3, False])

    def test_refusals(self):
        self.refuses_each(Grown, (2, 4), {"reach": bound_samples.NO_NATURALS, "many": NO_NUMBERS})


class Equality(Case):
    def alike(self, one, other, want):
        self.same([one == other, other == one, one != other, other != one], [want, want, not want, not want])

    def test_by_plans(self):
        for one in plain_lines.all_plans(4):
            for other in plain_lines.all_plans(4):
                self.alike(Line(one), Line(other), one == other)
        self.alike(Line(()), Line((0,)), False)

    def test_a_line_and_a_grown(self):
        for reach in (1, 2, 3):
            for many in range(6):
                for bases in plain_lines.all_plans(many):
                    self.alike(Grown(reach, many), Line(bases), bases == plain_lines.grown_plan(reach, many))
        self.alike(Grown(5, 3), Grown(9, 3), True)
        self.alike(Grown(1, 3), Grown(2, 3), False)
        one = Grown(1, 0)
        one.grow()
        self.alike(one, Grown(2, 1), True)

    def test_nothing_else(self):
        for line in (Line((0, 1)), Grown(2, 2), Line(())):
            for thing in (
                None, True, 0, (), (0, 1), [0, 1], "", "++---", line.plan(), line.track(), object(), Line, Grown,
                Based((0, 1), (0, 1)), Told(("sum",), (0, 1), (1, 1)),
            ):
                self.alike(line, thing, False)
