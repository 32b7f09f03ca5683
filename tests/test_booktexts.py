"""Whole books as lines."""
from sincemarks.booktexts import book_lines, read_book
from sincemarks.boundtexts import read_bounds
from sincemarks.changetexts import change_word, read_change
from sincemarks.errors import InvalidText
from sincemarks.historytexts import read_history, read_kind
from tests import bound_samples, samples, sheet_samples, text_samples
from tests.cases import Case

SUM, TEXT = ("sum",), ("text",)
GOOD = ("kind sum", "history 0 1 1", "3", "-28", "0", "bounds 3 2:2 2:1 1:3")


def some_books():
    for k, kind in enumerate(samples.KINDS):
        for history in samples.SMALL[k % 5::5] + samples.LARGE[k % 6::6]:
            source = samples.chance("book lines", kind, history)
            changes = samples.some_changes(kind, len(history), source)
            for bounds in list(bound_samples.some_bounds(history, 1))[k % 3::4]:
                yield kind, history, changes, bounds


def place_of(lines):
    """The book and None, or None and the place at which lines are no book; line by line as the readers tell."""
    def told(at, reader):
        if at >= len(lines):
            raise InvalidText(at, 0)
        try:
            return reader(lines[at])
        except InvalidText as error:
            raise InvalidText(at, error.field) from None
    try:
        kind = told(0, read_kind)
        history = told(1, read_history)
        many = len(history)
        changes = tuple([told(2 + k, lambda text: read_change(kind, text)) for k in range(many)])
        bounds = told(2 + many, lambda text: read_bounds(history, text))
        if len(lines) > 3 + many:
            raise InvalidText(3 + many, 0)
    except InvalidText as error:
        return None, (error.line, error.field)
    return (kind, history, changes, bounds), None


class Books(Case):
    def looked_at(self, lines):
        book, place = place_of(lines)
        if place is None:
            self.gives(book, read_book, lines)
            self.gives(lines, book_lines, *book)
        else:
            self.fails("InvalidText", place, read_book, lines)

    def test_by_hand(self):
        book = (SUM, (0, 1), (3, 28), (2, ((2, 2), (2, 1))))
        self.gives(("kind sum", "history 0 1", "3", "28", "bounds 2 2:2 2:1"), book_lines, *book)
        self.gives(book, read_book, ("kind sum", "history 0 1", "3", "28", "bounds 2 2:2 2:1"))
        self.gives(("kind turn 3", "history", "bounds 5"), book_lines, ("turn", 3), (), (), (5, ()))
        self.gives((("turn", 3), (), (), (5, ())), read_book, ("kind turn 3", "history", "bounds 5"))
        self.gives((TEXT, (0,), ("",), (1, ((1, 1),))), read_book, ("kind text", "history 0", "=", "bounds 1 1:1"))
        for lines, place in (
            (("kind sum", "history 0", "3"), (3, 0)), ((), (0, 0)), (("kind sum",), (1, 0)), (("kind sum", "history 0"), (2, 0)),
            (("kind sum", "history"), (2, 0)), (("kind sum", "history", "bounds 5", ""), (3, 0)),
            (("kind sum", "history", "bounds 5", "x", "y"), (3, 0)), (("kind sum", "history", "3", "bounds 5"), (2, 0)),
            (("kind x", "history 1"), (0, 1)), (("kind sum", "history 1", "x"), (1, 1)), (("kind sum", "history 0", "x", "y"), (2, 0)),
            (("kind sum", "history 0", "3 4", "bounds 1 1:1"), (2, 0)), (("kind sum", "history 0", "3", "bounds 1 1:2"), (3, 2)),
            (("kind sum", "history 0", "3", "bounds 0 1:2"), (3, 1)), (("kind sum", "history 0", "3", "bounds 1"), (3, 2)),
            (("kind sum", "history 0", "3", "bounds 1 1:1 1:1"), (3, 3)), (("kind sum", "history 0", "3", "", ""), (3, 0)),
            (("kind text", "history 0", "3", "bounds 1 1:1"), (2, 0)), (("kind turn x", "history 0"), (0, 2)), (("",), (0, 0)),
            (("kind sum", "history 0", "3\n", "bounds 1 1:1"), (2, 0)), (("kind sum ", "history 0", "3", "bounds 1 1:1"), (0, 2)),
        ):
            self.fails("InvalidText", place, read_book, lines)
            self.same(place_of(lines), (None, place))

    def test_there_and_back(self):
        for book in some_books():
            kind, history, changes, bounds = book
            lines = self.answer(book_lines, *book)
            self.same(lines[0], " ".join(["kind", *[str(part) for part in kind]]))
            self.same(lines[1], " ".join(["history", *[str(parent) for parent in history]]))
            self.same(lines[2:-1], tuple(change_word(kind, change) for change in changes))
            pairs = [f"{width}:{reach}" for width, reach in bounds[1]]
            self.same(lines[-1], " ".join(["bounds", str(bounds[0]), *pairs]))
            self.gives(book, read_book, lines)

    def test_lines_more_less_exchanged(self):
        self.looked_at(GOOD)
        for k in range(len(GOOD) + 1):
            self.looked_at(GOOD[:k])
            self.looked_at(GOOD[:k] + GOOD[k + 1:])
            for text in ("", "5", "=a", "kind sum", "history 0", "history 0 1 2", "bounds 3 2:2 2:1 1:3", "bounds 3", "x"):
                self.looked_at(GOOD[:k] + (text,) + GOOD[k:])
                self.looked_at(GOOD[:k] + (text,) + GOOD[k + 1:])
            for m in range(k + 1, len(GOOD)):
                bent = list(GOOD)
                bent[k], bent[m] = bent[m], bent[k]
                self.looked_at(tuple(bent))

    def test_spoilt_in_two_places(self):
        bad = ("kind x", "history 0 2", "x", "", "bounds 3 2:4", "1 2")
        for k in range(len(GOOD)):
            for m in range(k, len(GOOD)):
                for one in bad:
                    for other in bad[::2]:
                        bent = list(GOOD)
                        bent[k], bent[m] = one, other
                        self.looked_at(tuple(bent))

    def test_near_lines(self):
        for k in range(len(GOOD)):
            for text in list(text_samples.near_texts(GOOD[k]))[::3]:
                self.looked_at(GOOD[:k] + (text,) + GOOD[k + 1:])

    def test_refusals(self):
        history = (0, 1, 1)
        for kind in samples.NINE:
            changes = samples.some_changes(kind, 3, samples.chance("lines", kind))
            bad = sheet_samples.wrongs(kind, history)
            self.refuses_each(book_lines, (kind, history, changes, (3, ((2, 3),) * 3)), {
                "kind": bad["kind"], "changes": bad["changes"], "bounds": bound_samples.bad_bounds(history, 4),
            })
        self.refuses_each(read_book, (GOOD,), {"lines": (
            None, True, 0, "", "kind sum", list(GOOD), GOOD + (None,), (None,), (GOOD,), GOOD[:2] + (5,), (True,), {}, [],
        )})
