"""The class of test cases of live books, which are held against plain ones."""
from sincemarks import errors
from sincemarks.live import LiveMarks
from tests import plain, plain_live, plain_sheets, plain_stores
from tests.cases import Case


def plain_book(log):
    """The plain book of a log of which no event is refused."""
    book = plain_live.Book(*log[:4])
    for event in log[4]:
        book.do(event)
    return book


def live_book(log):
    book = LiveMarks(*log[:4])
    for event in log[4]:
        book.do(event)
    return book


class LiveCase(Case):
    def looked_at(self, book, want):
        """What a book tells is what is told of the plain one."""
        history, changes, bounds, usual = want.told()
        bases = want.bases_now()
        self.same(book.kind_now(), want.kind)
        self.same(book.history_now(), history)
        self.same(book.changes_now(), changes)
        self.same(book.bounds_now(), bounds)
        self.same(book.usual_now(), usual)
        self.same(book.rows_now(), want.rows())
        self.same(book.bases_now(), bases)
        self.same(book.sheets_now(), plain_sheets.filled(want.kind, history, changes, bases))
        self.same(book.wrote_now(), want.wrote)
        self.assertTrue(plain_stores.is_plan(history, bases))
        for version in {0, len(history), len(history) // 2}:
            self.same(book.state_now(version), plain.state(want.kind, history, changes, version))

    def raised(self, name, fields, call):
        """The call raises the error of this name with just these fields."""
        error = getattr(errors, name)
        with self.assertRaises(error) as caught:
            call()
        self.assertIs(type(caught.exception), error)
        self.same(vars(caught.exception), fields)

    def all_told(self, book):
        """All that a book tells but its counts."""
        return (
            book.kind_now(), book.history_now(), book.changes_now(), book.bounds_now(), book.usual_now(), book.rows_now(),
            book.bases_now(), book.sheets_now(), book.wrote_now(), book.events_now(), book.log_now(), book.noted(), len(book),
        )
