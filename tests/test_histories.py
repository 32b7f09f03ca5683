"""[17] Histories and their checker."""
import itertools

from sincemarks.historychecker import lets_history
from sincemarks.historykinds import is_history
from tests import samples
from tests.cases import Case


def first_fault(thing):
    """The word and place that the checker is to give, None for a history."""
    if type(thing) is not tuple:
        return ("shape", -1)
    for k, parent in enumerate(thing):
        if type(parent) is not int or parent < 0 or parent > k:
            return ("parent", k)
    return None


class Histories(Case):
    def looked_at(self, thing):
        fault = first_fault(thing)
        self.gives(fault is None, is_history, thing)
        if fault is None:
            self.gives(len(thing), lets_history, thing)
        else:
            self.fails("InvalidPaper", fault, lets_history, thing)

    def test_histories(self):
        for history in samples.HISTORIES:
            self.gives(True, is_history, history)
            self.gives(len(history), lets_history, history)

    def test_lengths(self):
        self.gives(0, lets_history, ())
        self.gives(1, lets_history, (0,))
        self.gives(40, lets_history, tuple(range(40)))
        self.gives(4999, lets_history, tuple(range(4999)))
        self.gives(4999, lets_history, (0,) * 4999)

    def test_all_short_tuples(self):
        numbers = (-1, 0, 1, 2, 3, True, False, None)
        for many in range(5):
            for thing in itertools.product(numbers[:8 if many < 4 else 5], repeat=many):
                self.looked_at(thing)

    def test_values_of_any_sort(self):
        for thing in samples.ANY + samples.NO_HISTORIES:
            self.looked_at(thing)
        for thing in samples.NO_HISTORIES:
            self.gives(False, is_history, thing)

    def test_each_place_with_each_wrong_parent(self):
        for history in (samples.LINE, samples.FORK, samples.LARGE[3], samples.LARGE[4]):
            for k in range(len(history)):
                for wrong in (k + 1, k + 2, -1, -k - 1, samples.GREAT, True, False, None, "0", "", (0,), [0], [], ()):
                    thing = history[:k] + (wrong,) + history[k + 1:]
                    self.gives(False, is_history, thing)
                    self.fails("InvalidPaper", ("parent", k), lets_history, thing)
                greatest = history[:k] + (k,) + history[k + 1:]
                self.gives(len(history), lets_history, greatest)

    def test_the_first_place_comes_first(self):
        self.fails("InvalidPaper", ("parent", 2), lets_history, (0, 1, 5, -1))
        self.fails("InvalidPaper", ("parent", 1), lets_history, (0, None, 9, True))
        self.fails("InvalidPaper", ("parent", 0), lets_history, (1, 9))
        self.fails("InvalidPaper", ("parent", 0), lets_history, (True, True))

    def test_lists_are_none(self):
        self.fails("InvalidPaper", ("shape", -1), lets_history, [0, 1])
        self.fails("InvalidPaper", ("shape", -1), lets_history, [])
        self.fails("InvalidPaper", ("shape", -1), lets_history, [5])
