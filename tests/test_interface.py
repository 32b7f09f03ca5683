"""The interface: names, parameters, and the files that define them."""
import importlib
import inspect

from sincemarks import errors
from tests.cases import Case
from tests.interface import CLASSES, ERRORS, FAMILIES, MODULES


def parameters_of(function):
    """The parameters after the first one; "*" in front of those that go by name alone, "**" of any number."""
    found = list(inspect.signature(function).parameters.values())[1:]
    signs = {inspect.Parameter.KEYWORD_ONLY: "*", inspect.Parameter.VAR_POSITIONAL: "**"}
    return tuple(signs.get(told.kind, "") + told.name for told in found)


class Functions(Case):
    def test_each_is_defined_in_its_file_with_its_parameters(self):
        for module_name, functions in MODULES.items():
            module = importlib.import_module(f"sincemarks.{module_name}")
            for name, parameters in functions.items():
                function = getattr(module, name)
                self.assertTrue(inspect.isfunction(function), name)
                self.assertEqual(function.__module__, f"sincemarks.{module_name}", name)
                self.assertEqual(tuple(inspect.signature(function).parameters), parameters, name)


class Classes(Case):
    def test_each_is_defined_in_its_file_with_its_base(self):
        for name, told in CLASSES.items():
            module = importlib.import_module(f"sincemarks.{told['module']}")
            made = getattr(module, name)
            self.assertEqual(made.__module__, f"sincemarks.{told['module']}", name)
            base = object if told["base"] is None else getattr(module, told["base"])
            self.assertEqual(made.__bases__, (base,), name)
            self.assertEqual(parameters_of(made.__init__), told["parameters"], name)

    def test_each_method_stands_in_the_class_itself(self):
        for name, told in CLASSES.items():
            body = vars(getattr(importlib.import_module(f"sincemarks.{told['module']}"), name))
            for word, parameters in {**told["methods"], **told["signs"]}.items():
                self.assertTrue(inspect.isfunction(body[word]), (name, word))
                self.assertEqual(parameters_of(body[word]), parameters, (name, word))
            for word, parameters in told.get("static", {}).items():
                self.assertIsInstance(body[word], staticmethod, (name, word))
                self.assertEqual(tuple(inspect.signature(body[word].__func__).parameters), parameters, (name, word))
            for word in told["properties"]:
                self.assertIsInstance(body[word], property, (name, word))
                self.assertIsNone(body[word].fset, (name, word))


class Errors(Case):
    def test_families(self):
        self.assertEqual(errors.MarkError.__bases__, (ValueError,))
        for family in FAMILIES:
            self.assertEqual(getattr(errors, family).__bases__, (errors.MarkError,), family)

    def test_each_derives_directly_from_its_family(self):
        for name, (family, _) in ERRORS.items():
            error = getattr(errors, name)
            self.assertEqual(error.__bases__, (getattr(errors, family),), name)
            self.assertEqual(error.__module__, "sincemarks.errors", name)

    def test_fields_by_position_and_by_name_are_the_very_objects(self):
        for worths in (([1], {"a": []}), (None, True), (-1, "x"), (object(), Case), (1.5, b"z"), ((), 7)):
            for name, (_, fields) in ERRORS.items():
                told = dict(zip(fields, worths))
                by_name = getattr(errors, name)(**told)
                turned = getattr(errors, name)(**dict(reversed(told.items())))
                by_position = getattr(errors, name)(*told.values())
                mixed = getattr(errors, name)(*worths[:1], **dict(list(told.items())[1:]))
                for error in (by_name, turned, by_position, mixed):
                    for field, worth in told.items():
                        self.assertIs(getattr(error, field), worth, (name, field))

    def test_exactly_the_fields(self):
        for name, (_, fields) in ERRORS.items():
            error = getattr(errors, name)
            worths = list(range(len(fields)))
            for arguments in ((), worths[:-1], worths + [9]):
                with self.assertRaises(TypeError, msg=(name, arguments)):
                    error(*arguments)
            with self.assertRaises(TypeError, msg=name):
                error(*worths, other=1)
            with self.assertRaises(TypeError, msg=name):
                error(**dict.fromkeys(fields[1:]), nofield=1)

    def test_they_are_raised_and_caught_by_each_of_their_classes(self):
        for name, (family, fields) in ERRORS.items():
            for above in (name, family, "MarkError"):
                with self.assertRaises(getattr(errors, above)):
                    raise getattr(errors, name)(*fields)
            with self.assertRaises(ValueError):
                raise getattr(errors, name)(*fields)
            others = [other for other in FAMILIES if other != family]
            for other in others:
                self.assertFalse(issubclass(getattr(errors, name), getattr(errors, other)))
