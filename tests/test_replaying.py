"""Books made from logs, and what the events of logs had to write."""
from sincemarks.errors import InvalidEvent
from sincemarks.live import LiveMarks
from sincemarks.replaying import replayed
from sincemarks.writtenlogs import written_in, written_many
from tests import live_samples, plain_live, samples
from tests.live_cases import LiveCase, live_book, plain_book

SUM = ("sum",)
ALL = (replayed, written_in, written_many)


def wrote_in(log):
    book, found = plain_live.Book(*log[:4]), []
    for event in log[4]:
        book.do(event)
        found.append(book.wrote)
    return tuple(found)


class Replaying(LiveCase):
    def test_any(self):
        for log in live_samples.logs():
            book = self.answer(replayed, log)
            self.assertIs(type(book), LiveMarks)
            self.looked_at(book, plain_book(log))
            self.same([book.log_now(), book.tally(), book.noted()], [log, (len(log[4]), 0, 0), ()])

    def test_a_books_own_log(self):
        for log in live_samples.logs(step=2):
            book = live_book(log)
            book.undo(3)
            other = replayed(book.log_now())
            self.same(other == book, True)
            self.same([other.rows_now(), other.bases_now(), other.sheets_now(), other.wrote_now(), other.events_now()],
                      [book.rows_now(), book.bases_now(), book.sheets_now(), book.wrote_now(), book.events_now()])

    def test_the_usual_bounds_of_the_beginning(self):
        book = LiveMarks(SUM, 5, 4, 3)
        book.do_all((("commit", 0, 1), ("usual", 1, 1), ("commit", 0, 2)))
        self.same(replayed(book.log_now()) == book, True)
        self.same(replayed(book.log_now()).bounds_now(), (5, ((4, 3), (1, 1))))

    def test_each_is_new(self):
        log = (SUM, 3, 3, 3, (("commit", 0, 1),))
        one, other = replayed(log), replayed(log)
        one.do(("commit", 0, 1))
        self.same([len(one), len(other)], [2, 1])

    def refused_at(self, log, event, reason):
        for function in ALL:
            with self.assertRaises(InvalidEvent) as caught:
                function(log)
            self.assertIs(caught.exception.event, event)
            self.same(caught.exception.reason, reason)

    def test_an_event_refused(self):
        for log in live_samples.logs(size=8, step=2):
            if log[1] == 999:
                continue
            bad = ("usual", 1, 999)
            for k in (0, 4, len(log[4])):
                self.refused_at(log[:4] + (log[4][:k] + (bad,) + log[4][k:],), bad, "roof")
                # The first one of several.
                late = ("graft", 0, (0,) * 30, (samples.changes_of(log[0])[0],) * 30)
                self.refused_at(log[:4] + (log[4][:k] + (bad,) + log[4][k:] + (late,),), bad, "roof")

    def test_each_reason(self):
        first, second = ("commit", 0, 1), ("commit", 1, 2)
        self.refused_at((SUM, 1, 1, 1, (first, second)), second, "bounds")
        self.refused_at((SUM, 9, 40, 9, (first,) * 24 + (second,)), second, "size")
        steep = ("pledge", 0, 1, 1, 10)
        self.refused_at((SUM, 9, 40, 9, (first, steep)), steep, "roof")
        last = ("usual", 2, 2)
        self.refused_at((SUM, 9, 9, 9, (("usual", 1, 1),) * 40 + (last,)), last, "many")

    def refused_at_the_first(self, log, reason):
        self.refused_at(log, log[4][0], reason)

    def test_refused_at_the_first(self):
        self.refused_at_the_first((SUM, 1, 1, 1, (("graft", 0, (0, 1), (1, 1)),)), "bounds")
        self.refused_at_the_first((SUM, 1, 1, 1, (("pledge", 0, 1, 1, 2),)), "roof")
        self.refused_at_the_first((SUM, 1, 1, 1, (("graft", 0, (0,) * 25, (1,) * 25),)), "size")

    def test_refusals(self):
        for function in ALL:
            self.refuses_each(function, ((SUM, 2, 2, 2, (("commit", 0, 5),)),), {"log": live_samples.no_logs()})


class Written(LiveCase):
    def test_any(self):
        for log in live_samples.logs():
            want = wrote_in(log)
            self.gives(want, written_in, log)
            self.gives(sum(len(versions) for versions in want), written_many, log)

    def test_against_the_live_book(self):
        for log in live_samples.logs(step=2):
            book, found = LiveMarks(*log[:4]), []
            for event in log[4]:
                book.do(event)
                found.append(book.wrote_now())
            self.gives(tuple(found), written_in, log)

    def test_by_hand(self):
        log = (SUM, 2, 2, 2, (("commit", 0, 5), ("commit", 1, 7), ("commit", 1, 2), ("usual", 1, 1), ("drop", 2), ("mend", 1, 6)))
        self.gives(((1,), (2,), (2, 3), (), (2,), (1, 2)), written_in, log)
        self.gives(7, written_many, log)
        self.gives((), written_in, (SUM, 2, 2, 2, ()))
        self.gives(0, written_many, (SUM, 2, 2, 2, ()))
        self.gives(((),), written_in, (SUM, 2, 2, 2, (("usual", 1, 1),)))

    def test_forty_events(self):
        log = live_samples.some_log(("text",), (9, 3, 9), 40, "written", most=20)
        self.assertEqual(len(log[4]), 40)
        self.gives(wrote_in(log), written_in, log)
