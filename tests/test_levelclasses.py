"""[52] Histories and shapes with a width, as objects."""
from sincemarks.boundclasses import Level
from sincemarks.errors import MarkError, NotUsable, Unkept
from sincemarks.historyclasses import Told
from sincemarks.levelclasses import Far, Weighed
from sincemarks.pairs import least_reach
from sincemarks.partingchecker import lets_parting
from sincemarks.rooms import rooms_of
from sincemarks.shapes import shape_depth, shape_fits, shape_reach, shape_size, shape_weight
from sincemarks.shapetexts import shape_word
from tests import bound_samples, plain, plain_bounds, plain_levels, samples, shape_samples
from tests.cases import Case
from tests.shape_samples import FAR
from tests.test_shapes import NO_SHAPES

WIDTHS = (1, 2, 3, 40)


def no_weighed(width):
    """What is no Weighed of this width."""
    return (
        None, True, 0, (), "", (0, 1), ((0, 1), width), Weighed((0, 1), width + 1), Weighed((), width + 1), Far(width, FAR),
        Weighed, [Weighed((0,), width)], Level((0,), 2, 2), Told(("sum",), (0,), (1,)), object(),
    )


class Alike(Case):
    def alike(self, one, other, want):
        self.same([one == other, other == one, one != other, other != one], [want, want, not want, not want])


class Histories(Alike):
    def is_of(self, book, history, width):
        """The book is a Weighed that tells what is told of this history and width."""
        self.assertIs(type(book), Weighed)
        weights = plain_levels.weights(history, width)
        self.same(len(book), len(history))
        self.same(list(book), [weights[v] for v in range(1, len(history) + 1)])
        self.same([weight for weight in book], list(book))
        self.same(book.forest, plain_levels.forest(history, width))
        self.alike(book, Weighed(history, width), True)

    def test_by_hand(self):
        book = Weighed(samples.FORK, 2)
        self.same([book.forest, list(book), len(book)], [5, [5, 2, 1, 4, 3, 2, 1], 7])
        self.gives(4, book.weight, 4)
        self.gives(True, book.fits, 2)
        self.gives(False, book.fits, 1)
        self.gives(2, book.least)
        self.is_of(self.answer(book.lined, 1), samples.LINE, 2)
        self.is_of(self.answer(book.hung, 3, Weighed((0, 0), 2)), samples.FORK + (3, 3), 2)
        self.gives(((None, 5), (5, 4), (4, 2), (3, 2)), Weighed((0, 1, 2), 2).rooms, 2)
        self.gives(None, Weighed((0, 0, 0), 2).parted, Weighed((0, 1), 2))

    def test_any(self):
        for history in samples.SMALL[::2] + samples.LARGE[:3]:
            for width in WIDTHS:
                book = self.answer(Weighed, history, width)
                self.is_of(book, history, width)
                weights = plain_levels.weights(history, width)
                for version, weight in weights.items():
                    self.gives(weight, book.weight, version)
                    line = plain_levels.replaced(history, version, plain_levels.line(weight))
                    self.is_of(self.answer(book.lined, version), line, width)
                self.gives(least_reach(history, width), book.least)
                for reach in (1, 2, 3, 7, 99):
                    kept = plain_levels.is_kept(history, width, reach)
                    self.gives(kept, book.fits, reach)
                    if kept:
                        self.gives(rooms_of(history, width, reach), book.rooms, reach)
                    else:
                        wall = plain_bounds.wall_in(history, plain_bounds.level(history, width, reach))
                        self.fails("Unkept", (wall,), book.rooms, reach)

    def test_no_changes(self):
        book = Weighed((), 3)
        self.is_of(book, (), 3)
        self.same([book.forest, list(book), len(book), book.least(), book.fits(1)], [0, [], 0, 0, True])
        self.gives(((None, 19),), book.rooms, 3)
        self.refuses("version", book.weight, 0)

    def hung(self, book, version, other):
        """By position and by name."""
        before = [(each.forest, list(each)) for each in (book, other)]
        grown = [book.hung(version, other), book.hung(other=other, version=version)]
        self.same([(each.forest, list(each)) for each in (book, other)], before)
        self.alike(*grown, True)
        return grown[0]

    def test_hung(self):
        for history in samples.SMALL[::6]:
            for width in (1, 2, 40):
                book = Weighed(history, width)
                for other in ((), (0,), (0, 0, 1), samples.WIDE):
                    for version in range(len(history) + 1):
                        want = plain.hung(history, version, other)
                        self.is_of(self.hung(book, version, Weighed(other, width)), want, width)
                self.is_of(self.hung(book, 0, book), plain.hung(history, 0, history), width)

    def test_parted(self):
        for width in (1, 2, 3):
            for one in samples.SMALL[::6]:
                for other in samples.SMALL[1::7]:
                    books = Weighed(one, width), Weighed(other, width)
                    parting = books[0].parted(books[1])
                    self.same(books[0].parted(other=books[1]), parting)
                    forests = [book.forest for book in books]
                    self.same(parting is None, forests[0] == forests[1])
                    if parting is not None:
                        self.gives(forests[0] < forests[1], lets_parting, width, one, other, parting)

    def test_forty(self):
        for history in bound_samples.FORTY:
            for width in (1, 40):
                self.is_of(self.answer(Weighed, history, width), history, width)
        half = Weighed((0,) * 20, 40)
        self.is_of(self.hung(half, 20, half), (0,) * 20 + (20,) * 20, 40)
        self.same(len(Weighed(tuple(range(40)), 40).rooms(99)), 41)

    def test_equality(self):
        for history in samples.SMALL[::4]:
            for width in (1, 2):
                book = Weighed(history, width)
                self.alike(book, Weighed(history, width), True)
                self.alike(book, Weighed(history, width + 1), False)
                self.alike(book, Weighed(history + (0,), width), False)
                for thing in (
                    None, True, (), [], 0, "", (history, width), list(book), Far(width, ()), object(), Weighed,
                    Told(("sum",), history, (1,) * len(history)),
                ):
                    self.alike(book, thing, False)
        # They weigh the same, but are not equal.
        self.alike(Weighed((0, 1, 1), 1), Weighed((0, 1), 1), False)

    def test_they_do_not_change(self):
        book = Weighed(samples.FORK, 2)
        with self.assertRaises(AttributeError):
            book.forest = 7
        before = (book.forest, list(book), len(book))
        for call, error in (
            (lambda: book.weight(0), NotUsable), (lambda: book.rooms(1), Unkept), (lambda: book.rooms(0), NotUsable),
            (lambda: book.hung(8, book), NotUsable), (lambda: book.hung(1, None), NotUsable),
            (lambda: book.parted(5), NotUsable), (lambda: book.lined(True), NotUsable), (lambda: book.fits(None), NotUsable),
        ):
            with self.assertRaises(MarkError) as caught:
                call()
            self.assertIs(type(caught.exception), error)
            self.same((book.forest, list(book), len(book)), before)

    def test_refusals(self):
        for history in ((), samples.FORK):
            self.refuses_each(Weighed, (history, 2), {
                "history": samples.NO_HISTORIES, "width": bound_samples.NO_NATURALS,
            })
        book = Weighed(samples.WIDE, 2)
        versions = bound_samples.bad_versions(samples.WIDE)
        self.refuses_each(book.weight, (1,), {"version": versions})
        self.refuses_each(book.lined, (1,), {"version": versions})
        self.refuses_each(book.fits, (2,), {"reach": bound_samples.NO_NATURALS})
        self.refuses_each(book.rooms, (2,), {"reach": bound_samples.NO_NATURALS})
        for wrong in no_weighed(2):
            for call, word in (
                (lambda: book.hung(1, wrong), "other"), (lambda: book.hung(0, other=wrong), "other"),
                (lambda: book.hung(5, wrong), "version"), (lambda: book.hung(True, wrong), "version"),
                (lambda: book.parted(wrong), "other"), (lambda: book.parted(other=wrong), "other"),
            ):
                with self.assertRaises(NotUsable) as caught:
                    call()
                self.same((caught.exception.word, caught.exception.at), (word, -1))
        for wrong in samples.no_versions(samples.WIDE):
            with self.assertRaises(NotUsable) as caught:
                book.hung(wrong, book)
            self.same((caught.exception.word, caught.exception.at), ("version", -1))


class Shapes(Alike):
    def is_of(self, far, width, shape):
        """The far history is a Far that tells what is told of this width and shape."""
        self.assertIs(type(far), Far)
        self.gives(shape_size(shape), far.size)
        self.gives(shape_weight(width, shape), far.weight)
        self.gives(shape_depth(shape), far.depth)
        self.gives(shape_reach(width, shape), far.least)
        self.gives(shape_word(shape), far.told)
        self.alike(far, Far(width, shape), True)

    def test_by_hand(self):
        far = Far(2, FAR)
        self.gives(18000000, far.size)
        self.gives(9, far.weight)
        self.gives(6, far.depth)
        self.gives(3, far.least)
        self.gives("1000000x4(7x2)", far.told)
        self.gives(True, far.fits, 3)
        self.gives(False, far.fits, 2)
        self.refuses("shape", far.near)
        self.is_of(self.answer(far.under, 5), 2, ((1, 5, FAR),))
        self.is_of(self.answer(far.copied, 3), 2, ((3000000, 4, ((7, 2, ()),)),))
        self.is_of(far.beside(Far(2, ((1, 1, ()),))), 2, FAR + ((1, 1, ()),))

    def test_any(self):
        for shape in (*shape_samples.SMALL, *shape_samples.LARGE, *shape_samples.some_shapes(20)):
            for width in WIDTHS:
                far = self.answer(Far, width, shape)
                self.is_of(far, width, shape)
                for reach in (1, 3, 99):
                    self.gives(shape_fits(width, reach, shape), far.fits, reach)

    def test_near(self):
        for shape in (*shape_samples.SMALL, *shape_samples.LARGE, *shape_samples.some_shapes(40)):
            far = Far(3, shape)
            if shape_size(shape) > 40:
                self.refuses("shape", far.near)
            else:
                near = self.answer(far.near)
                self.alike(near, Weighed(plain_levels.unfolded(shape), 3), True)
                self.same(near.forest, far.weight())
        self.refuses("shape", Far(1, ((41, 1, ()),)).near)
        self.same(len(Far(1, ((40, 1, ()),)).near()), 40)

    def test_beside(self):
        for width in (1, 2, 40):
            shapes = shape_samples.SMALL[::3] + (FAR,)
            for one in shapes:
                for other in shapes:
                    both = Far(width, one).beside(Far(width, other))
                    self.is_of(both, width, one + other)
                    self.alike(both, Far(width, one).beside(other=Far(width, other)), True)

    def test_under_and_copied(self):
        for shape in shape_samples.SMALL[::2] + (FAR, ((samples.GREAT, 1, ()),)):
            far = Far(2, shape)
            for value in (1, 2, 7, 10 ** 29, samples.GREAT):
                self.is_of(self.answer(far.under, value), 2, ((1, value, shape),))
                want = tuple((value * many, length, inner) for many, length, inner in shape)
                self.is_of(self.answer(far.copied, value), 2, want)
            self.is_of(far, 2, shape)
        self.is_of(Far(2, ()).copied(5), 2, ())
        self.is_of(Far(2, ()).under(5), 2, ((1, 5, ()),))

    def test_copies_hang_side_by_side(self):
        for shape in shape_samples.SMALL[::3]:
            history = plain_levels.unfolded(shape)
            if 3 * len(history) <= 36:
                near = Far(2, shape).copied(3).near()
                thrice = plain.hung(plain.hung(history, 0, history), 0, history)
                self.same(near.forest, plain_levels.forest(thrice, 2))
                self.same(len(near), len(thrice))
                under = Far(2, shape).under(4).near()
                self.alike(under, Weighed(plain.hung((0, 1, 2, 3), 4, history), 2), True)

    def test_equality(self):
        for shape in shape_samples.SMALL[::2]:
            far = Far(2, shape)
            self.alike(far, Far(2, shape), True)
            self.alike(far, Far(3, shape), False)
            self.alike(far, Far(2, shape + ((1, 1, ()),)), False)
            for thing in (
                None, True, (), [], 0, "", shape, (2, shape), far.told(), Weighed((), 2), object(), Far,
            ):
                self.alike(far, thing, False)
        self.alike(Far(2, ()), Weighed((), 2), False)
        # The same history, but not the same shape.
        self.alike(Far(2, ((2, 1, ()),)), Far(2, ((1, 1, ()), (1, 1, ()))), False)

    def test_refusals(self):
        self.refuses_each(Far, (2, FAR), {"width": bound_samples.NO_NATURALS, "shape": NO_SHAPES[::2]})
        for bad in NO_SHAPES:
            self.refuses("shape", Far, 1, bad)
        far = Far(2, FAR)
        bad = bound_samples.NO_NATURALS
        self.refuses_each(far.fits, (2,), {"reach": bad})
        self.refuses_each(far.under, (2,), {"length": bad})
        self.refuses_each(far.copied, (2,), {"many": bad})
        for wrong in (
            None, True, 0, (), FAR, "1x1", (2, FAR), Far(3, FAR), Far(1, ()), Weighed((0,), 2), Far, [far], object(),
        ):
            for call in (lambda: far.beside(wrong), lambda: far.beside(other=wrong)):
                with self.assertRaises(NotUsable) as caught:
                    call()
                self.same((caught.exception.word, caught.exception.at), ("other", -1))
            self.gives("1000000x4(7x2)", far.told)
