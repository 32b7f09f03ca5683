"""The examples of the document, word for word."""
from sincemarks.errors import MarkError
from tests.cases import Case
from tests.interface import ERRORS

EXAMPLES = '''
    >>> LINE, FORK, WIDE = (0, 1, 2, 3, 4), (0, 1, 2, 1, 4, 5, 6), (0, 1, 1, 1)
    >>> TWOS, FREE = (0, 1, 0, 3, 3), (0, 0, 0, 0, 0)
    >>> LEVEL = (2, ((2, 2), (2, 2), (2, 2), (2, 2), (2, 2)))

    >>> from sincemarks.thens import then
    >>> [then(("tail",), (1, "ab"), (3, "c")), then(("affine", 7), (2, 3), (4, 5))]
    [(2, 'c'), (1, 3)]

    >>> from sincemarks.cuttings import left_on
    >>> from sincemarks.grafts import grafted, replaced
    >>> [left_on(FORK, (2, 5, 6)), replaced(FORK, 4, (0, 0)), grafted((0, 1), 1, (0, 1))]
    [(0, 0, 2), (0, 1, 2, 1, 1), (0, 1, 1, 3)]

    >>> from sincemarks.states import taken_over, changes_on
    >>> TEXT, ABCD = ("text",), ("a", "b", "c", "d")
    >>> [taken_over(TEXT, WIDE, ABCD, 2, 3), changes_on(TEXT, WIDE, ABCD, (2, 4))]
    ['c', ('ab', 'ad')]

    >>> from sincemarks.changetexts import change_word
    >>> from sincemarks.historytexts import read_history
    >>> change_word(("last",), ((0, -5), (3, None)))
    '0:-5,3:x'
    >>> read_history("history 0 2")
    raises InvalidText(line=0, field=2)
'''


def steps_of(text):
    """Each step with the line that it is to give, None where it gives none."""
    steps = []
    for line in text.splitlines():
        if line.startswith("    >>> "):
            steps.append([line[len("    >>> "):], None])
        elif line.strip():
            steps[-1][1] = line[len("    "):]
    return steps


def shown(source, names):
    """What the document shows for a step."""
    try:
        code = compile(source, "example", "eval")
    except SyntaxError:
        exec(source, names)
        return None
    try:
        return repr(eval(code, names))
    except MarkError as error:
        name = error.__class__.__name__
        fields = ", ".join(f"{field}={getattr(error, field)!r}" for field in ERRORS[name][1])
        return f"raises {name}({fields})"


class Examples(Case):
    def test_examples(self):
        names = {}
        for source, want in steps_of(EXAMPLES):
            self.assertEqual(shown(source, names), want, source)
