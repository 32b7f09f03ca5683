"""Running totals of integers."""
from sincemarks.grafts import line_of
from sincemarks.historykinds import is_version
from sincemarks.kinds import is_integer, is_number
from sincemarks.sheetclasses import Sums
from sincemarks.usable import require


class Totals:
    """Integers with the sums that a plan of a line keeps of them."""

    def __init__(self, numbers, bases):
        require(isinstance(numbers, tuple) and all([is_integer(number) for number in numbers]), "numbers")
        self._line = line_of(len(numbers))
        self._sums = Sums(self._line, numbers, bases)

    def __len__(self):
        return len(self._line)

    def __eq__(self, other):
        return isinstance(other, Totals) and self._sums == other._sums

    def total(self, many):
        """The sum of the first many integers."""
        require(is_version(self._line, many), "many")
        return self._sums.apart(0, many)

    def within(self, low, high):
        """The sum of the integers at the places from low to high - 1."""
        require(is_version(self._line, low), "low")
        require(is_version(self._line, high) and low <= high, "high")
        return self._sums.apart(low, high)

    def put(self, place, number):
        """This place gets the integer; how many sheets hold its change."""
        self._require_place(place)
        require(is_integer(number), "number")
        return len(self._sums.put_right(place + 1, number))

    def raise_by(self, place, number):
        """This place grows by the integer; how many sheets hold its change."""
        self._require_place(place)
        require(is_integer(number), "number")
        return len(self._sums.raise_by(place + 1, number))

    def _require_place(self, place):
        require(is_number(place) and place < len(self._line), "place")

    def numbers_now(self):
        """The integers."""
        return self._sums.made_from[2]

    def parts(self):
        """The sums of the sheets, from version 1 on."""
        return self._sums.worths_now
