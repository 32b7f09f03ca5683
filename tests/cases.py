"""The class of all test cases: each call is made by position and by name."""
import copy
import inspect
import unittest

from sincemarks import errors
from tests.interface import CLASSES, ERRORS, PARAMETERS, listed


def exactly(one, other):
    """Whether both are equal and of the same kind throughout (True is not 1)."""
    if type(one) is not type(other):
        return False
    if isinstance(one, (tuple, list)):
        return len(one) == len(other) and all(exactly(a, b) for a, b in zip(one, other))
    if isinstance(one, dict):
        return list(one) == list(other) and all(exactly(one[key], other[key]) for key in one)
    return one == other


def names_of(function):
    """The parameters of a function, a class, a method or an object that is called."""
    if isinstance(function, type):
        return CLASSES[function.__name__]["parameters"]
    if hasattr(function, "__self__"):
        return listed(type(function.__self__).__name__, function.__name__)
    if type(function).__name__ in CLASSES:
        return listed(type(function).__name__, "__call__")
    return PARAMETERS[function.__name__]


def told_of(function):
    return getattr(function, "__qualname__", type(function).__name__)


def held_by(function):
    """The object whose method this is, or which is called itself, otherwise None."""
    if type(function).__name__ in CLASSES:
        return function
    return None if isinstance(function, type) else getattr(function, "__self__", None)


def called(function, names, arguments, by_name):
    """The call by position, where this may be, or by name; what a generator gives, as a list."""
    by_position, named = [], {}
    for name, argument in zip(names, arguments):
        if by_name or name.startswith("*"):
            named[name.removeprefix("*")] = argument
        else:
            by_position.append(argument)
    result = function(*by_position, **named)
    return list(result) if inspect.isgenerator(result) else result


class Case(unittest.TestCase):
    def same(self, got, want, told=None):
        if not exactly(got, want):
            self.fail(f"got {got!r}, not {want!r}; {told!r}")

    def _calls(self, function, arguments):
        """What a call by position and one by name do, each as (result, error)."""
        names = names_of(function)
        held = getattr(held_by(function), "__dict__", {})
        before = copy.deepcopy((arguments, held))
        outcomes = []
        for by_name in (False, True):
            try:
                outcomes.append((called(function, names, arguments, by_name), None))
            except errors.MarkError as error:
                outcomes.append((None, error))
            self.same((arguments, held), before, (told_of(function), "changes what it is given"))
        return outcomes

    def answer(self, function, *arguments):
        """The result, which is the same by position, by name, and again."""
        told = (told_of(function), arguments)
        (first, error), (second, further) = self._calls(function, arguments)
        self.assertIsNone(error, told)
        self.assertIsNone(further, told)
        self.same(first, second, told)
        return first

    def gives(self, want, function, *arguments):
        self.same(self.answer(function, *arguments), want, (told_of(function), arguments))

    def fails(self, name, fields, function, *arguments):
        """The call raises the error of this name with just these fields."""
        told = (told_of(function), arguments)
        for result, error in self._calls(function, arguments):
            self.assertIsNotNone(error, (told, "returned", result))
            self.assertIs(type(error), getattr(errors, name), told)
            for field, want in zip(ERRORS[name][1], fields, strict=True):
                self.same(getattr(error, field), want, (told, field))

    def refuses(self, name, function, *arguments):
        """The call finds the parameter of this name not as stated."""
        self.fails("NotUsable", (name, -1), function, *arguments)

    def refuses_each(self, function, arguments, wrongs):
        """Each parameter is refused for each of its wrong values, also where later ones are wrong, too."""
        names = [name.removeprefix("*") for name in names_of(function)]
        self.answer(function, *arguments)
        for place, name in enumerate(names):
            later = [k for k in range(place + 1, len(arguments)) if names[k] in wrongs]
            for turn, bad in enumerate(wrongs.get(name, ())):
                bent = list(arguments)
                bent[place] = bad
                self.refuses(name, function, *bent)
                for k in later:
                    bent[k] = wrongs[names[k]][turn % len(wrongs[names[k]])]
                    self.refuses(name, function, *bent)
