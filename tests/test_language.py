"""Rules of the language that can be counted: sizes, signs, imports, names."""
import ast
import builtins
import pathlib
import re

from tests.cases import Case

PACKAGE = pathlib.Path(__file__).resolve().parent.parent / "sincemarks"
LIBRARY = {
    "__future__": {"annotations"},
    "heapq": {"heappush", "heappop", "heapify", "heapreplace", "heappushpop"},
    "math": {"gcd", "lcm", "isqrt", "comb", "perm", "factorial"},
    # Not product, combinations and permutations: objects with a length are gone through.
    "itertools": {"chain", "accumulate", "pairwise", "islice", "zip_longest"},
    "collections": {"defaultdict", "deque"},
}
BUILTINS = set("""
    len range enumerate zip min max sum abs sorted reversed int str bool bytes list tuple dict set frozenset
    isinstance ord repr any all divmod pow getattr hasattr setattr map iter next type super property staticmethod
    classmethod object float print Exception ValueError TypeError KeyError IndexError LookupError
    ZeroDivisionError ArithmeticError OverflowError RuntimeError NotImplementedError AttributeError StopIteration
    NotImplemented __name__
""".split())
# The methods that yield; nothing in the package asks them.
GENERATORS = {"line_chains", "asked_each"}
METHODS = set("""
    append clear copy count endswith extend find get index insert isalnum isalpha isdigit islower isspace isupper
    items join keys ljust lower lstrip partition pop remove replace reverse rfind rjust rpartition rsplit rstrip
    setdefault split splitlines startswith strip update upper values zfill bit_length removeprefix removesuffix
    __init__
""".split())


def files():
    return sorted(path for path in PACKAGE.rglob("*") if "__pycache__" not in path.parts)


def trees():
    return {path.stem: ast.parse(path.read_text()) for path in files()}


def imports(tree):
    """The pairs (module, name) that a file imports."""
    found = [node for node in ast.walk(tree) if isinstance(node, ast.ImportFrom)]
    return [(node.module, alias.name) for node in found for alias in node.names]


def defined(tree):
    names = set()
    for node in tree.body:
        if isinstance(node, (ast.FunctionDef, ast.ClassDef)):
            names.add(node.name)
        elif isinstance(node, ast.Assign):
            names.update(target.id for target in node.targets)
    return names


class Language(Case):
    def test_files(self):
        paths = files()
        self.assertLessEqual(len(paths), 100)
        self.assertIn(PACKAGE / "__init__.py", paths)
        for path in paths:
            self.assertEqual(path.parent, PACKAGE, path)
            self.assertTrue(re.fullmatch("[a-z0-9_]+[.]py", path.name), path)

    def test_sizes_and_signs(self):
        for path in files():
            lines = path.read_text().split("\n")
            self.assertLessEqual(len(lines), 400, path)
            for line in lines:
                self.assertLessEqual(len(line), 120, (path, line))
                self.assertTrue(all(" " <= sign <= "~" for sign in line), (path, line))

    def test_functions(self):
        for name, tree in trees().items():
            for node in ast.walk(tree):
                if isinstance(node, ast.FunctionDef):
                    self.assertLessEqual(node.end_lineno - node.lineno + 1, 40, (name, node.name))
                self.assertNotIsInstance(node, (ast.AsyncFunctionDef, ast.Div), name)
                if isinstance(node, ast.Constant):
                    self.assertNotIsInstance(node.value, (float, complex), name)

    def test_lists_instead_of_generator_expressions_and_sort(self):
        # Classes of the package have signs of their own, so any, all, max and the like take lists.
        for name, tree in trees().items():
            for node in ast.walk(tree):
                self.assertNotIsInstance(node, (ast.GeneratorExp, ast.YieldFrom), name)
                if isinstance(node, ast.Attribute):
                    self.assertNotIn(node.attr, ("sort", "format", "args"), name)
                if isinstance(node, ast.FunctionDef) and any(isinstance(told, ast.Yield) for told in ast.walk(node)):
                    self.assertIn(node.name, GENERATORS, name)

    def test_generators_are_not_asked(self):
        for name, tree in trees().items():
            for node in ast.walk(tree):
                asked = {getattr(node, "attr", None), getattr(node, "id", None)}
                self.assertFalse(asked & GENERATORS, name)

    def test_methods(self):
        parsed = trees()
        own = {
            node.name for tree in parsed.values() for made in tree.body if isinstance(made, ast.ClassDef)
            for node in made.body if isinstance(node, ast.FunctionDef)
        }
        for name, tree in parsed.items():
            for node in ast.walk(tree):
                if isinstance(node, ast.Call) and isinstance(node.func, ast.Attribute):
                    self.assertIn(node.func.attr, METHODS | own, name)

    def test_ways_through_objects(self):
        # An object is gone through as the one list or tuple that it keeps.
        for name, tree in trees().items():
            calls = [
                node for node in ast.walk(tree) if isinstance(node, ast.Call) and isinstance(node.func, ast.Name)
                and node.func.id in ("iter", "next")
            ]
            ways = [
                node.body[0].value for node in ast.walk(tree)
                if isinstance(node, ast.FunctionDef) and node.name == "__iter__"
            ]
            self.assertEqual([ast.dump(call) for call in calls], [ast.dump(way) for way in ways], name)

    def test_words_that_stand_nowhere(self):
        for path in files():
            self.assertFalse(re.search("_wall|_WallAttr", path.read_text()), path)
        for name, tree in trees().items():
            texts = [node.value for node in ast.walk(tree) if isinstance(node, ast.Constant)]
            self.assertFalse([text for text in texts if isinstance(text, str) and "%" in text], name)

    def test_imports(self):
        parsed = trees()
        for name, tree in parsed.items():
            if name != "__main__":
                self.assertFalse([node for node in ast.walk(tree) if isinstance(node, ast.Import)], name)
            for module, word in imports(tree):
                if module in LIBRARY:
                    self.assertIn(word, LIBRARY[module], name)
                else:
                    self.assertTrue(module.startswith("sincemarks."), (name, module))
                    self.assertIn(word, defined(parsed[module.split(".")[1]]), (name, module))

    def test_no_other_thing_has_the_name_of_an_import_or_a_class(self):
        for name, tree in trees().items():
            taken = {word for _, word in imports(tree)}
            taken |= {node.name for node in tree.body if isinstance(node, ast.ClassDef)}
            for node in ast.walk(tree):
                if isinstance(node, ast.Name) and isinstance(node.ctx, ast.Store):
                    self.assertNotIn(node.id, taken, name)
                if isinstance(node, ast.arg):
                    self.assertNotIn(node.arg, taken, name)

    def test_each_import_is_used(self):
        for name, tree in trees().items():
            used = {node.id for node in ast.walk(tree) if isinstance(node, ast.Name)}
            self.assertEqual({word for _, word in imports(tree)} - used, set(), name)

    def test_no_two_files_import_from_each_other(self):
        uses = {
            name: {module.split(".")[1] for module, _ in imports(tree) if module.startswith("sincemarks.")}
            for name, tree in trees().items()
        }
        while uses:
            free = [name for name, used in uses.items() if not used & set(uses)]
            self.assertTrue(free, uses)
            for name in free:
                del uses[name]

    def test_builtins(self):
        for name, tree in trees().items():
            for node in ast.walk(tree):
                if isinstance(node, ast.Name) and hasattr(builtins, node.id):
                    self.assertIn(node.id, BUILTINS, name)
                    self.assertIsInstance(node.ctx, ast.Load, (name, node.id))
                if isinstance(node, ast.arg):
                    self.assertFalse(hasattr(builtins, node.arg), (name, node.arg))
            for word in defined(tree):
                self.assertFalse(hasattr(builtins, word), (name, word))
