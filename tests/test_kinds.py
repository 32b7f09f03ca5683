"""[13] Integers, numbers, naturals, sets, letters."""
from sincemarks.kinds import is_integer, is_letters, is_natural, is_number, is_set
from tests import plain, samples
from tests.cases import Case

SETS = (
    (), (0,), (1,), (7,), (0, 1), (0, 2), (1, 10), (9, 10, 11), (0, 5, 10 ** 29), tuple(range(40)),
    tuple(range(samples.GREAT - 39, samples.GREAT + 1)), tuple(range(0, 4999)),
)

NO_SETS = (
    (0, 0), (1, 0), (1, 1), (0, 2, 1), (0, 2, 2), (0, 0, 1), (1, 0, 2), (2, 3, 1), (3, 2, 1),
    (0, 5, 3, 9), (0, 1, 2, 1), (0, 1, 2, 2), (-1,), (-1, 0), (-2, -1), (0, -1), (-1, 0, 1),
    (True,), (False,), (False, True), (0, True), (False, 1), (True, 2), (0, 1, True), (None,),
    (0, None), (None, 0), ("0",), ("",), ("a", "b"), (0, "1"), ((0,),), (0, (1,)), ([0],), (0, [1]),
    [], [0], [0, 1], "", "01", "a", 0, 1, None, True, False, tuple(range(40)) + (39,),
    tuple(range(40)) + (0,), tuple(range(40)) + (True,), tuple(range(40)) + (None,),
)


class Integers(Case):
    def test_integers(self):
        for thing in samples.INTEGERS:
            self.gives(True, is_integer, thing)
            self.gives(thing >= 0, is_number, thing)
            self.gives(thing >= 1, is_natural, thing)

    def test_edges(self):
        self.gives(True, is_number, 0)
        self.gives(False, is_number, -1)
        self.gives(True, is_natural, 1)
        self.gives(False, is_natural, 0)
        self.gives(False, is_natural, -1)

    def test_what_is_no_integer(self):
        for thing in samples.ODD + samples.STRINGS:
            for function in (is_integer, is_number, is_natural):
                self.gives(False, function, thing)

    def test_bools_are_none(self):
        for function in (is_integer, is_number, is_natural):
            self.gives(False, function, True)
            self.gives(False, function, False)


class Sets(Case):
    def test_sets(self):
        for thing in SETS:
            self.gives(True, is_set, thing)

    def test_no_sets(self):
        for thing in NO_SETS:
            self.gives(False, is_set, thing)

    def test_values_of_any_sort(self):
        for thing in samples.ANY:
            self.gives(plain.is_set(thing), is_set, thing)

    def test_each_place_is_looked_at(self):
        for k in range(40):
            numbers = list(range(0, 80, 2))
            for wrong in (None, True, "3", -1, (3,), numbers[k - 1] if k else 79):
                numbers[k] = wrong
                self.gives(False, is_set, tuple(numbers))


class Letters(Case):
    def test_letters(self):
        for thing in ("", "a", "z", "m", "az", "za", "aa", "abcdefghijklmnopqrstuvwxyz", "q" * 40):
            self.gives(True, is_letters, thing)

    def test_each_sign(self):
        for code in [10] + list(range(32, 127)):
            sign = chr(code)
            for text in (sign, "a" + sign, sign + "a", "ab" + sign + "c", sign * 3):
                self.gives(97 <= code <= 122, is_letters, text)

    def test_values_of_any_sort(self):
        for thing in samples.ANY + (["a"], ("a",), ("a", "b"), ["ab"]):
            self.gives(plain.is_letters(thing), is_letters, thing)
