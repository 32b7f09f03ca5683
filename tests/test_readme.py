"""What README.md shows."""
import pathlib
import re

from tests.cases import Case
from tests.interface import CLASSES, MODULES

TEXT = (pathlib.Path(__file__).resolve().parent.parent / "README.md").read_text()


def steps():
    """The lines of all blocks, each with what is shown behind it or on the line below, None for nothing."""
    found = []
    for block in re.findall("```python\n(.*?)```", TEXT, re.DOTALL):
        for line in block.splitlines():
            source, _, shown = line.partition("#")
            if source.strip():
                found.append([source.strip(), shown.strip() or None])
            elif shown:
                found[-1][1] = shown.strip()
    return found


def value_of(shown):
    """What is shown, ahead of words that tell of it; None where it is told in words alone."""
    for end in range(len(shown), 0, -1):
        if shown[:end].rstrip().endswith(","):
            continue
        try:
            return (eval(shown[:end], {}),)
        except (SyntaxError, NameError, TypeError):
            continue
    return None


class Readme(Case):
    def test_the_blocks(self):
        names, looked_at = {}, 0
        for source, shown in steps():
            try:
                code = compile(source, "README.md", "eval")
            except SyntaxError:
                exec(source, names)
                want = None if shown is None or " = " not in source else value_of(shown)
                if want is not None:
                    looked_at += names[source.split(" = ")[0]] == want[0]
                continue
            got, want = eval(code, names), None if shown is None else value_of(shown)
            if want is not None:
                self.assertEqual(got, want[0], source)
                looked_at += 1
        self.assertGreater(looked_at, 40)

    def test_all_that_there_is(self):
        rows = [line for line in TEXT.splitlines() if line.startswith("| `")]
        for module, names in MODULES.items():
            for name in names:
                self.assertTrue([row for row in rows if f"`{module}`" in row and f"`{name}`" in row], (module, name))
        for name, told in CLASSES.items():
            self.assertTrue([row for row in rows if f"`{told['module']}`" in row and f"`{name}`" in row], name)
