"""The class of all test cases: each call is made by position and by name."""
import copy
import unittest

from sincemarks import errors
from tests.interface import ERRORS, PARAMETERS


def exactly(one, other):
    """Whether both are equal and of the same kind throughout (True is not 1)."""
    if type(one) is not type(other):
        return False
    if isinstance(one, (tuple, list)):
        return len(one) == len(other) and all(exactly(a, b) for a, b in zip(one, other))
    return one == other


class Case(unittest.TestCase):
    def same(self, got, want, told=None):
        if not exactly(got, want):
            self.fail(f"got {got!r}, not {want!r}; {told!r}")

    def _calls(self, function, arguments):
        """What a call by position and one by name do, each as (result, error)."""
        names = PARAMETERS[function.__name__]
        before = copy.deepcopy(arguments)
        outcomes = []
        for by_name in (False, True):
            try:
                if by_name:
                    outcomes.append((function(**dict(zip(names, arguments))), None))
                else:
                    outcomes.append((function(*arguments), None))
            except errors.MarkError as error:
                outcomes.append((None, error))
            self.same(arguments, before, (function.__name__, "changes its arguments"))
        return outcomes

    def answer(self, function, *arguments):
        """The result, which is the same by position, by name, and again."""
        told = (function.__name__, arguments)
        (first, error), (second, further) = self._calls(function, arguments)
        self.assertIsNone(error, told)
        self.assertIsNone(further, told)
        self.same(first, second, told)
        return first

    def gives(self, want, function, *arguments):
        self.same(self.answer(function, *arguments), want, (function.__name__, arguments))

    def fails(self, name, fields, function, *arguments):
        """The call raises the error of this name with just these fields."""
        told = (function.__name__, arguments)
        for result, error in self._calls(function, arguments):
            self.assertIsNotNone(error, (told, "returned", result))
            self.assertIs(type(error), getattr(errors, name), told)
            for field, want in zip(ERRORS[name][1], fields, strict=True):
                self.same(getattr(error, field), want, (told, field))

    def refuses(self, name, function, *arguments):
        """The call finds the parameter of this name not as stated."""
        self.fails("NotUsable", (name, -1), function, *arguments)
