"""[45] Numbers joined; what [G5] says of joining."""
import itertools

from sincemarks.choosing import capacity
from sincemarks.joining import joined, joined_all, joined_many
from tests import bound_samples, plain_bounds, samples
from tests.cases import Case
from tests.samples import GREAT
from tests.test_rownumbers import great_numbers


class Joining(Case):
    def test_by_hand(self):
        for want, width, one, other in (
            (9, 2, 9, 7), (13, 2, 10, 7), (0, 3, 0, 0), (7, 3, 7, 0), (7, 3, 0, 7), (8, 1, 8, 8), (9, 1, 8, 9),
            (3, 3, 1, 2), (3, 3, 2, 2), (6, 6, 3, 3), (GREAT, 1, GREAT, 5),
        ):
            self.gives(want, joined, width, one, other)
        self.gives(2, joined_all, 2, (1, 1, 1))
        self.gives(0, joined_all, 2, ())
        self.gives(9, joined_all, 2, (9,))
        self.gives(5, joined_many, 2, 3, 5)
        self.gives(0, joined_many, 2, 3, 0)
        self.gives(3, joined_many, 2, 3, 1)

    def test_small_numbers(self):
        for width in range(1, 6):
            for one in range(26):
                for other in range(26):
                    got = joined(width, one, other)
                    self.same(got, plain_bounds.joined(width, (one, other)), (width, one, other))
                    self.same(joined_all(width, (one, other)), got)

    def test_all_of_several(self):
        for width in (1, 2, 3, 5, 8, 40):
            source = samples.chance("joined", width)
            for many in (0, 1, 2, 3, 7, 40):
                numbers = tuple(source.randint(0, source.choice((3, 30, 1000, GREAT))) for _ in range(many))
                self.gives(plain_bounds.joined(width, numbers), joined_all, width, numbers)
                self.same(joined_all(width, numbers[::-1]), joined_all(width, numbers))

    def test_great_numbers(self):
        numbers = list(great_numbers())
        for width in (1, 2, 3, 10, 39, 40):
            for one, other in zip(numbers, numbers[1:]):
                self.gives(plain_bounds.joined(width, (one, other)), joined, width, one, other)

    def test_many_times(self):
        for width in (1, 2, 3, 6):
            for number in (*range(12), 100, GREAT):
                for many in range(width + 4):
                    self.gives(plain_bounds.joined(width, (number,) * many), joined_many, width, number, many)

    def test_many_from_the_width_on(self):
        for width in (1, 2, 3, 17, 40):
            for number in (0, 1, 2, 5, 41, 1000, 10 ** 20, GREAT):
                most = self.answer(joined_many, width, number, width)
                self.same(most, plain_bounds.joined(width, (number,) * width))
                self.assertLessEqual(most, width * number)
                for many in (width + 1, 2 * width, 10 ** 9, GREAT):
                    self.gives(most, joined_many, width, number, many)

    def test_refusals(self):
        no_numbers = bound_samples.NO_NUMBERS
        self.refuses_each(joined, (2, 9, 7), {
            "width": bound_samples.NO_NATURALS, "one": no_numbers, "other": no_numbers,
        })
        self.refuses_each(joined_all, (2, (9, 7)), {"width": bound_samples.NO_NATURALS, "numbers": (
            None, True, 0, 7, "", "97", [9, 7], [], (True,), (9, False), (9, -1), (9, None), (9, "7"), ((9,),), (9, (7,)),
            ([9],), {},
        )})
        self.refuses_each(joined_many, (2, 3, 5), {
            "width": bound_samples.NO_NATURALS, "number": no_numbers, "many": no_numbers,
        })


class Guarantees(Case):
    def test_the_sequence_does_not_count(self):
        for width in (1, 2, 3, 4):
            for numbers in itertools.combinations_with_replacement((0, 1, 2, 4, 7, 11, 20), 3):
                want = {joined_all(width, order) for order in itertools.permutations(numbers)}
                self.assertEqual(len(want), 1)
                a, b, c = numbers
                self.assertEqual(want, {joined(width, joined(width, a, b), c), joined(width, a, joined(width, b, c))})

    def test_between_the_greater_and_the_sum(self):
        for width in range(1, 6):
            for one in range(30):
                for other in range(30):
                    got = joined(width, one, other)
                    self.assertLessEqual(max(one, other), got)
                    self.assertLessEqual(got, one + other)
                    if one + other <= width:
                        self.same(got, one + other)
                    if width == 1:
                        self.same(got, max(one, other))

    def test_it_never_falls(self):
        for width in range(1, 6):
            for other in range(25):
                found = [joined(width, one, other) for one in range(40)]
                self.assertEqual(found, sorted(found))

    def test_below_the_capacity_exactly_if_both_are(self):
        for width, reach in ((1, 3), (2, 2), (2, 3), (3, 2), (4, 1), (3, 3)):
            most = capacity(width, reach)
            for one in range(most + 5):
                for other in range(most + 5):
                    self.same(joined(width, one, other) < most, one < most and other < most)
        most = capacity(40, 99)
        self.assertLess(joined(40, most - 1, most - 2), most)
        self.assertGreaterEqual(joined(40, most, 1), most)
