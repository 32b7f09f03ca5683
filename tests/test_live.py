"""Live books, event by event."""
import functools

from sincemarks.errors import InvalidEvent, MarkError, NotUsable
from sincemarks.historyclasses import Told
from sincemarks.live import LiveMarks
from tests import bound_samples, live_samples, plain, plain_bounds, plain_live, plain_stores, samples
from tests.cases import Case
from tests.live_cases import LiveCase, live_book, plain_book
from tests.samples import GREAT

SUM, TEXT = ("sum",), ("text",)
FULL = tuple(("commit", 0, 1) for _ in range(24))


@functools.lru_cache(maxsize=None)
def counts(history):
    return plain_bounds.counts_of_bases(history)


class Making(LiveCase):
    def test_by_hand(self):
        book = LiveMarks(SUM, 2, 2, 2)
        self.same(book.do_all((("commit", 0, 5), ("commit", 1, 7), ("commit", 1, 2))), 3)
        self.same([book.history_now(), book.rows_now(), book.bases_now(), book.sheets_now(), book.state_now(2)],
                  [(0, 1, 1), ((2,), (1,), (1,)), (0, 1, 1), (5, 7, 2), 12])
        self.same(book.wrote_now(), (2, 3))
        self.gives("bounds", book.barred, ("graft", 2, (0, 1, 2, 3), (0, 0, 0, 0)))
        self.gives("roof", book.barred, ("bound", 1, 1, 3))
        self.gives("form", book.barred, ("drop", 4))
        self.gives(None, book.barred, ("drop", 2))
        # A version beside the path of the event is written.
        self.same([book.do(("drop", 2)), book.bases_now(), book.sheets_now(), book.wrote_now()], [None, (0, 0), (5, 7), (2,)])
        self.same([book.do(("mend", 1, 6)), book.sheets_now(), book.wrote_now()], [None, (6, 8), (1, 2)])

    def test_a_new_book(self):
        for kind in samples.KINDS:
            for level in live_samples.LEVELS:
                book = self.answer(LiveMarks, kind, *level)
                self.looked_at(book, plain_live.Book(kind, *level))
                self.same(book.bounds_now(), (level[0], ()))
                self.same([len(book), book.tally(), book.events_now(), book.noted()], [0, (0, 0, 0), (), ()])
                self.same(book.log_now(), (kind, *level, ()))

    def test_refusals(self):
        self.refuses_each(LiveMarks, (SUM, 3, 4, 2), {
            "kind": samples.NO_KINDS, "roof": bound_samples.NO_UP_TO_999, "width": bound_samples.NO_UP_TO_999,
            "reach": bound_samples.NO_UP_TO_999 + (4, 999),
        })
        self.refuses("reach", LiveMarks, SUM, 3, 1, 4)
        self.refuses("kind", LiveMarks, None, None, None, None)
        self.refuses("roof", LiveMarks, SUM, 1000, 1000, 1000)

    def test_the_longest(self):
        self.same([LiveMarks.LONGEST, LiveMarks(SUM, 1, 1, 1).LONGEST], [40, 40])

    def test_states(self):
        for log in live_samples.logs(size=9, step=2):
            book, want = live_book(log), plain_book(log)
            history, changes, _, _ = want.told()
            for version in range(len(history) + 1):
                self.gives(plain.state(log[0], history, changes, version), book.state_now, version)
            for bad in samples.no_versions(history):
                self.refuses("version", book.state_now, bad)


class Following(LiveCase):
    def follow(self, kind, level, steps, steep, often=0.08):
        """Any events, those refused among them, and some undone, each step held against a plain book."""
        source = samples.chance("follow", kind, level, steep)
        book, stands = LiveMarks(kind, *level), [plain_live.Book(kind, *level)]
        events, tally, reasons = [], [0, 0, 0], []
        for _ in range(steps):
            event = live_samples.some_event(kind, len(stands[-1].names), level[0], source, steep)
            reason = stands[-1].reason(len(events), event)
            reasons.append(reason)
            self.same(book.barred(event), reason, event)
            if reason is None:
                self.same(book.do(event), None)
                tally[0] += 1
                events.append(event)
                stands.append(stands[-1].copy())
                stands[-1].do(event)
            else:
                self.raised("InvalidEvent", {"event": event, "reason": reason}, lambda: book.do(event))
                tally[2] += 1
            if source.random() < often:
                back = source.randint(0, len(events))
                self.same(book.undo(back), None)
                tally[1] += back
                del events[len(events) - back:], stands[len(stands) - back:]
            self.looked_at(book, stands[-1])
            self.same([book.events_now(), len(book), book.tally()], [tuple(events), len(events), tuple(tally)])
            self.same(book.log_now(), (kind, *level, tuple(events)))
        return reasons

    def test_each_kind(self):
        found = []
        for k, kind in enumerate(samples.NINE):
            for level in live_samples.LEVELS[k % 3::3]:
                found += self.follow(kind, level, 26, (0.2, 0.5)[k % 2])
        for reason in (None, "roof", "bounds"):
            self.assertGreater(found.count(reason), 15, reason)

    def test_long_ones(self):
        found = []
        for steep, level in ((0.05, (9, 9, 9)), (0.3, (5, 5, 4)), (0.6, (3, 3, 3)), (0.85, (4, 2, 3))):
            found += self.follow(TEXT, level, 60, steep, 0)
        self.assertGreater(found.count("size"), 1)
        self.assertIn("many", found)

    def test_bounds_against_all_bases(self):
        found = []
        for number in range(60):
            source = samples.chance("all bases", number)
            level = source.choice(((1, 1, 1), (2, 1, 2), (2, 2, 2), (2, 2, 1), (3, 1, 2), (3, 2, 3), (4, 1, 4)))
            book, want = LiveMarks(SUM, *level), plain_live.Book(SUM, *level)
            for _ in range(12):
                event = live_samples.some_event(SUM, len(want.names), level[0], source, 0.4)
                if want.reason(0, event) not in (None, "bounds") or plain_live.many_after(len(want.names), event) > 5:
                    continue
                then = want.copy()
                then.apply(event)
                kept = plain_bounds.is_kept_by_some(counts(then.history()), then.bounds())
                self.same(book.barred(event), None if kept else "bounds", (want.told(), event))
                found.append(kept)
                if kept:
                    book.do(event)
                    want.do(event)
        self.assertGreater(found.count(True), 100)
        self.assertGreater(found.count(False), 30)

    def test_what_is_never_refused_for_bounds(self):
        for log in live_samples.logs(size=12):
            book, want = live_book(log), plain_book(log)
            roof = log[1]
            for version, (width, reach) in enumerate(want.bounds()[1], start=1):
                change = plain.blank(log[0])
                for event in (
                    ("drop", version), ("mend", version, change), ("usual", 1, 1), ("bound", version, width, reach),
                    ("bound", version, min(999, width + 1), reach), ("bound", version, 999, roof),
                ):
                    self.same(book.barred(event), None)

    def test_a_line_a_star_and_forks(self):
        for parents in (tuple(range(24)), (0,) * 24, (0,) + (1,) * 23, tuple(k // 2 for k in range(24)), tuple(k // 3 for k in range(24))):
            changes = tuple(range(24))
            book, want = LiveMarks(SUM, 24, 24, 24), plain_live.Book(SUM, 24, 24, 24)
            for event in (("graft", 0, parents, changes), ("mend", 1, 100), ("bound", 24, 1, 1), ("usual", 2, 3)):
                book.do(event)
                want.do(event)
                self.looked_at(book, want)
            for version in (24, 1, 12, 1):
                book.do(("drop", version))
                want.do(("drop", version))
                self.looked_at(book, want)


class Reasons(LiveCase):
    def refused(self, book, event, reason):
        before, (done, undone, refused) = self.all_told(book), book.tally()
        self.gives(reason, book.barred, event)
        self.fails("InvalidEvent", (event, reason), book.tried, event)
        with self.assertRaises(InvalidEvent) as caught:
            book.do(event)
        self.assertIs(caught.exception.event, event)
        self.same(caught.exception.reason, reason)
        self.same(self.all_told(book), before)
        self.same(book.tally(), (done, undone, refused + 1))

    def test_form(self):
        book = LiveMarks(SUM, 2, 2, 2)
        book.do_all((("commit", 0, 5), ("commit", 0, 6)))
        for thing in live_samples.no_events():
            self.refused(book, thing, "form")
        for thing in samples.ANY:
            self.gives("form", book.barred, thing)

    def test_the_versions_there_are_by_then(self):
        book = LiveMarks(SUM, 5, 5, 5)
        for many in range(4):
            for version in range(many + 3):
                self.same(book.barred(("commit", version, 1)), None if version <= many else "form")
                self.same(book.barred(("mend", version, 1)), None if 1 <= version <= many else "form")
            book.do(("commit", many, 1))

    def test_many(self):
        book = LiveMarks(SUM, 3, 3, 3)
        book.do_all((("usual", 1, 1), ("usual", 2, 2)) * 20)
        self.same(len(book), 40)
        for event in (("usual", 1, 1), ("commit", 0, 5), ("graft", 0, (0,) * 30, (1,) * 30), ("pledge", 0, 5, 1, 9)):
            self.refused(book, event, "many")
        self.refused(book, ("drop", 1), "form")
        self.refused(book, ("usual", 0, 1), "form")
        self.same(book.undo(), None)
        self.gives(None, book.barred, ("commit", 0, 5))
        self.refused(book, ("usual", 1, 9), "roof")
        book.do(("commit", 0, 5))
        self.refused(book, ("commit", 0, 5), "many")

    def test_many_is_what_is_not_undone(self):
        book = LiveMarks(SUM, 3, 3, 3)
        for _ in range(5):
            book.do_all((("usual", 1, 1),) * 20)
            book.undo(20)
        self.gives(None, book.barred, ("usual", 1, 1))
        self.same([len(book), book.tally()], [0, (100, 100, 0)])

    def test_size(self):
        book = LiveMarks(SUM, 5, 30, 5)
        book.do_all(FULL)
        for event in (("commit", 0, 5), ("pledge", 0, 5, 1, 1), ("take", 3, 4), ("graft", 0, (0,), (1,))):
            self.refused(book, event, "size")
        # Size comes ahead of roof.
        self.refused(book, ("pledge", 0, 5, 1, 6), "size")
        self.refused(book, ("bound", 1, 1, 6), "roof")
        self.refused(book, ("commit", 25, 5), "form")
        self.gives(None, book.barred, ("mend", 3, 5))
        book.do(("drop", 7))
        self.gives(None, book.barred, ("commit", 0, 5))
        self.refused(book, ("graft", 0, (0, 0), (1, 1)), "size")

    def test_size_of_grafts(self):
        book = LiveMarks(SUM, 30, 30, 30)
        for many in (25, 26, 40):
            self.refused(book, ("graft", 0, (0,) * many, (1,) * many), "size")
        self.gives(None, book.barred, ("graft", 0, (0,) * 24, (1,) * 24))
        book.do(("graft", 0, (0,) * 20, (1,) * 20))
        self.gives(None, book.barred, ("graft", 0, (0,) * 4, (1,) * 4))
        self.refused(book, ("graft", 0, (0,) * 5, (1,) * 5), "size")

    def test_many_ahead_of_size(self):
        book = LiveMarks(SUM, 5, 30, 5)
        book.do_all(FULL + (("usual", 1, 1),) * 15)
        self.refused(book, ("commit", 0, 5), "size")
        book.do(("usual", 30, 5))
        self.refused(book, ("commit", 0, 5), "many")
        self.refused(book, ("usual", 1, 6), "many")

    def test_roof(self):
        book = LiveMarks(SUM, 3, 1, 1)
        book.do(("commit", 0, 5))
        for reach in (4, 5, 999):
            for event in (("pledge", 0, 5, 1, reach), ("bound", 1, 1, reach), ("usual", 1, reach)):
                self.refused(book, event, "roof")
            # Roof comes ahead of bounds: below 1 it could not be kept with 1 either.
            self.refused(book, ("pledge", 1, 5, 1, reach), "roof")
        for event in (("pledge", 0, 5, 999, 3), ("bound", 1, 999, 3), ("usual", 999, 3)):
            self.gives(None, book.barred, event)
        self.refused(book, ("pledge", 1, 5, 1, 1), "bounds")

    def test_bounds(self):
        book = LiveMarks(SUM, 2, 1, 1)
        book.do(("commit", 0, 5))
        for event in (("commit", 1, 5), ("take", 1, 1), ("take", 1, 0), ("pledge", 1, 5, 9, 1), ("graft", 1, (0,), (1,)),
                      ("graft", 0, (0, 1), (1, 1))):
            self.refused(book, event, "bounds")
        self.gives(None, book.barred, ("pledge", 1, 5, 1, 2))
        book.do(("bound", 1, 2, 1))
        self.gives(None, book.barred, ("commit", 1, 5))
        book.do(("commit", 1, 5))
        self.refused(book, ("bound", 1, 1, 1), "bounds")
        self.refused(book, ("bound", 1, 1, 2), "bounds")
        self.gives(None, book.barred, ("bound", 2, 1, 2))

    def test_forty_events_and_one_more(self):
        log = live_samples.some_log(TEXT, (9, 9, 9), 40, "forty", most=20)
        self.assertEqual(len(log[4]), 40)
        book = live_book(log)
        self.looked_at(book, plain_book(log))
        for event in (("commit", 0, "a"), ("usual", 1, 1)):
            self.refused(book, event, "many")


class Tries(LiveCase):
    def test_tried(self):
        for log in live_samples.logs(size=10):
            book, want = live_book(log), plain_book(log)
            source = samples.chance("tried", log[:4])
            book.watch(0)
            for _ in range(4):
                event = live_samples.some_event(log[0], len(want.names), log[1], source)
                reason = want.reason(len(log[4]), event)
                before, tally = self.all_told(book), book.tally()
                if reason is not None:
                    self.fails("InvalidEvent", (event, reason), book.tried, event)
                else:
                    then = want.copy()
                    then.do(event)
                    other = self.answer(book.tried, event)
                    self.assertIs(type(other), LiveMarks)
                    self.looked_at(other, then)
                    self.same(other.log_now(), log[:4] + (log[4] + (event,),))
                    self.same([other.tally(), other.noted()], [(len(log[4]) + 1, 0, 0), ()])
                self.same([self.all_told(book), book.tally()], [before, tally])

    def test_apart_from_the_book(self):
        book = LiveMarks(SUM, 3, 3, 3)
        other = book.tried(("commit", 0, 1))
        other.do(("commit", 1, 2))
        self.same([len(book), len(other)], [0, 2])
        other.undo(2)
        self.same(other == book, True)

    def test_with_the_usual_bounds_of_the_beginning(self):
        book = LiveMarks(SUM, 5, 4, 3)
        book.do_all((("commit", 0, 1), ("usual", 1, 1), ("commit", 0, 2)))
        other = book.tried(("commit", 0, 3))
        self.same(other.bounds_now(), (5, ((4, 3), (1, 1), (1, 1))))
        self.same(other.log_now()[:4], (SUM, 5, 4, 3))

    def test_behind_an_undo(self):
        book = LiveMarks(SUM, 5, 4, 3)
        book.do_all((("commit", 0, 1), ("commit", 1, 2), ("usual", 1, 1)))
        book.undo(2)
        other = book.tried(("commit", 1, 9))
        self.same([other.changes_now(), other.usual_now(), other.tally()], [(1, 9), (4, 3), (2, 0, 0)])


class Wrote(LiveCase):
    def test_each_name(self):
        book = LiveMarks(SUM, 9, 9, 9)
        for event, want in (
            (("commit", 0, 1), (1,)), (("pledge", 1, 2, 1, 9), (2,)), (("take", 1, 2), (3,)), (("usual", 5, 5), ()),
            (("graft", 2, (0, 0), (1, 2)), (4, 5)), (("mend", 1, 7), None), (("bound", 2, 1, 9), ()), (("drop", 3), ()),
        ):
            book.do(event)
            if want is None:
                self.same(book.wrote_now(), tuple(v for v in range(1, 6) if 1 in plain_stores.sheet(
                    book.history_now(), book.bases_now(), v)))
            else:
                self.same(book.wrote_now(), want, event)

    def test_mend_writes_the_holders(self):
        book = LiveMarks(SUM, 2, 2, 2)
        book.do_all((("commit", 0, 5), ("commit", 1, 7), ("commit", 2, 1), ("commit", 3, 1), ("commit", 4, 1)))
        self.same(book.bases_now(), (0, 1, 0, 3, 3))
        for version, holders in ((1, (1, 3)), (2, (2, 3)), (3, (3,)), (4, (4, 5)), (5, (5,))):
            book.do(("mend", version, 100))
            self.same(book.wrote_now(), holders)
            book.undo()
        # Also where the change stays.
        book.do(("mend", 1, 5))
        self.same(book.wrote_now(), (1, 3))

    def test_new_versions_that_make_others_write(self):
        book = LiveMarks(SUM, 2, 2, 2)
        wrote = []
        for change in range(5):
            book.do(("commit", change, 1))
            wrote.append(book.wrote_now())
        want = plain_live.Book(SUM, 2, 2, 2)
        for change in range(5):
            want.do(("commit", change, 1))
            self.same(wrote[change], want.wrote)
        self.assertTrue(any(len(versions) > 1 for versions in wrote), wrote)

    def test_bound(self):
        book = LiveMarks(SUM, 3, 1, 3)
        book.do_all((("commit", 0, 1), ("commit", 1, 2), ("commit", 2, 3)))
        self.same(book.bases_now(), (0, 1, 2))
        book.do(("bound", 1, 3, 3))
        self.same([book.bases_now(), book.wrote_now()], [(0, 0, 2), (2,)])
        book.do(("bound", 1, 1, 3))
        self.same([book.bases_now(), book.wrote_now()], [(0, 1, 2), (2,)])

    def test_a_drop_changes_numbers(self):
        book = LiveMarks(SUM, 9, 1, 9)
        book.do_all((("commit", 0, 1), ("commit", 0, 2), ("commit", 2, 4), ("commit", 3, 8)))
        book.do(("drop", 1))
        self.same([book.history_now(), book.changes_now(), book.bases_now(), book.wrote_now()],
                  [(0, 1, 2), (2, 4, 8), (0, 1, 2), ()])
        book.do(("drop", 2))
        # The base of the last one is gone.
        self.same([book.history_now(), book.changes_now(), book.bases_now(), book.wrote_now()], [(0, 1), (2, 12), (0, 1), (2,)])

    def test_a_drop_beside(self):
        found = 0
        for number in range(40):
            log = live_samples.some_log(SUM, (2, 2, 2), 8, "beside", number, most=9)
            want = plain_book(log)
            book = live_book(log)
            for version in range(1, len(want.names) + 1):
                then = want.copy()
                near = {version, *plain.elders(want.history(), version), *plain.branch(want.history(), version)}
                then.do(("drop", version))
                book.do(("drop", version))
                self.same(book.wrote_now(), then.wrote)
                old = [v + (v >= version) for v in then.wrote]
                found += any(v not in near for v in old)
                book.undo()
        self.assertGreater(found, 5)

    def test_all_other_sheets_keep_their_worths(self):
        for log in live_samples.logs(size=16, step=2):
            book = LiveMarks(*log[:4])
            for event in log[4]:
                before = list(book.sheets_now())
                book.do(event)
                if event[0] == "drop":
                    del before[event[1] - 1]
                wrote = book.wrote_now()
                for version, sheet in enumerate(book.sheets_now(), start=1):
                    if version not in wrote:
                        self.same(sheet, before[version - 1], event)

    def test_without_an_event(self):
        book = LiveMarks(SUM, 2, 2, 2)
        self.same(book.wrote_now(), ())
        book.do(("commit", 0, 1))
        book.undo()
        self.same(book.wrote_now(), ())
        book.do(("usual", 1, 1))
        self.same(book.wrote_now(), ())


class Undoing(LiveCase):
    def test_each_number_of_steps(self):
        for log in live_samples.logs(size=9, step=2):
            events = log[4]
            for steps in range(len(events) + 1):
                book = live_book(log)
                self.same(book.undo(steps), None)
                self.looked_at(book, plain_book(log[:4] + (events[:len(events) - steps],)))
                self.same([len(book), book.tally(), book.events_now()],
                          [len(events) - steps, (len(events), steps, 0), events[:len(events) - steps]])

    def test_one_by_one(self):
        for log in live_samples.logs(size=12, step=2):
            book = live_book(log)
            for left in range(len(log[4]) - 1, -1, -1):
                book.undo()
                self.looked_at(book, plain_book(log[:4] + (log[4][:left],)))
            self.same(book == LiveMarks(*log[:4]), True)
            self.raised("NothingToUndo", {"steps": 1}, book.undo)

    def test_too_many(self):
        book = LiveMarks(SUM, 3, 3, 3)
        self.raised("NothingToUndo", {"steps": 1}, book.undo)
        self.same(book.undo(0), None)
        book.do_all((("commit", 0, 1), ("commit", 1, 1)))
        before = self.all_told(book)
        for steps in (3, 4, 40, GREAT):
            self.raised("NothingToUndo", {"steps": steps}, lambda: book.undo(steps))
            self.raised("NothingToUndo", {"steps": steps}, lambda: book.undo(steps=steps))
        for wrong in bound_samples.NO_NUMBERS:
            self.raised("NotUsable", {"word": "steps", "at": -1}, lambda: book.undo(wrong))
        self.same([self.all_told(book), book.tally()], [before, (2, 0, 0)])
        self.same([book.undo(0), self.all_told(book), book.tally()], [None, before, (2, 0, 0)])
        self.same([book.undo(steps=2), len(book), book.tally()], [None, 0, (2, 2, 0)])

    def test_usual_bounds_come_back(self):
        book = LiveMarks(SUM, 5, 4, 3)
        book.do_all((("usual", 1, 1), ("commit", 0, 1), ("usual", 2, 2)))
        book.undo(2)
        self.same([book.usual_now(), book.history_now()], [(1, 1), ()])
        book.undo()
        self.same(book.usual_now(), (4, 3))


class Together(LiveCase):
    def test_do_all(self):
        for log in live_samples.logs(size=9, step=2):
            for keep in ((), (True,), (False,)):
                book = LiveMarks(*log[:4])
                self.same(book.do_all(log[4], *keep), len(log[4]))
                self.looked_at(book, plain_book(log))
                self.same(book.tally(), (len(log[4]), 0, 0))

    def test_an_event_in_the_middle_refused(self):
        for log in live_samples.logs(size=8, step=2):
            events = log[4]
            for k in range(0, len(events) + 1, 2):
                for bad, reason in ((("drop", 99), "form"), (None, "form"), (("usual", 1, 999), "roof" if log[1] < 999 else None)):
                    if reason is None:
                        continue
                    bent = events[:k] + (bad,) + events[k:]
                    book = live_book(log[:4] + (events[:1],))
                    book.undo()
                    fields = {"event": bad, "reason": reason}
                    self.raised("InvalidEvent", fields, lambda: book.do_all(bent))
                    self.looked_at(book, plain_live.Book(*log[:4]))
                    self.same([len(book), book.tally()], [0, (1 + k, 1 + k, 1)])
                    self.raised("InvalidEvent", fields, lambda: book.do_all(bent, True))
                    self.looked_at(book, plain_book(log[:4] + (events[:k],)))
                    self.same([len(book), book.tally()], [k, (1 + 2 * k, 1 + k, 2)])
                    before = self.all_told(book)
                    self.raised("InvalidEvent", fields, lambda: book.do_all((bad, ("usual", 1, 1)), keep=False))
                    self.same([self.all_told(book), book.tally()], [before, (1 + 2 * k, 1 + k, 3)])

    def test_only_its_own_events_are_undone(self):
        book = LiveMarks(SUM, 2, 2, 2)
        book.do_all((("commit", 0, 5), ("commit", 1, 7)))
        self.raised("InvalidEvent", {"event": ("drop", 9), "reason": "form"},
                    lambda: book.do_all((("commit", 2, 1), ("drop", 9), ("commit", 0, 1))))
        self.same([book.changes_now(), book.tally()], [(5, 7), (3, 1, 1)])
        self.raised("InvalidEvent", {"event": ("drop", 9), "reason": "form"},
                    lambda: book.do_all(keep=True, events=(("commit", 2, 1), ("drop", 9), ("commit", 0, 1))))
        self.same([book.changes_now(), book.tally()], [(5, 7, 1), (4, 1, 2)])

    def test_by_hand(self):
        book = LiveMarks(SUM, 2, 2, 2)
        book.do_all((("commit", 0, 5), ("commit", 1, 7), ("commit", 1, 2)))
        book.do(("drop", 2))
        book.do(("mend", 1, 6))
        self.raised("InvalidEvent", {"event": ("drop", 9), "reason": "form"},
                    lambda: book.do_all((("commit", 2, 1), ("drop", 9))))
        self.same([book.tally(), book.undo(2), book.history_now(), book.wrote_now(), book.tally()],
                  [(6, 1, 1), None, (0, 1, 1), (2, 3), (6, 3, 1)])

    def test_no_events(self):
        book = LiveMarks(SUM, 2, 2, 2)
        self.same([book.do_all(()), book.do_all((), True), book.do_all((), keep=False), book.tally()], [0, 0, 0, (0, 0, 0)])

    def test_the_very_event(self):
        book = LiveMarks(SUM, 2, 2, 2)
        for bad in ((), [], ["x"], ("drop", 1), object()):
            with self.assertRaises(InvalidEvent) as caught:
                book.do_all((("usual", 1, 1), bad))
            self.assertIs(caught.exception.event, bad)

    def test_refusals(self):
        book = LiveMarks(SUM, 2, 2, 2)
        events = (("commit", 0, 5),)
        for wrong in (None, True, 0, 1, "", "commit", [], [("commit", 0, 5)], {}):
            for keep in (False, True, None, 1):
                self.raised("NotUsable", {"word": "events", "at": -1}, lambda: book.do_all(wrong, keep))
        for wrong in (0, 1, None, "", "True", (), (True,), [True]):
            self.raised("NotUsable", {"word": "keep", "at": -1}, lambda: book.do_all(events, wrong))
            self.raised("NotUsable", {"word": "keep", "at": -1}, lambda: book.do_all((None,), keep=wrong))
        self.same([len(book), book.tally()], [0, (0, 0, 0)])

    def test_the_longest_in_one(self):
        book = LiveMarks(SUM, 2, 2, 2)
        events = (("usual", 1, 1),) * 41
        self.raised("InvalidEvent", {"event": events[0], "reason": "many"}, lambda: book.do_all(events))
        self.same([len(book), book.tally()], [0, (40, 40, 1)])
        self.raised("InvalidEvent", {"event": events[0], "reason": "many"}, lambda: book.do_all(events, True))
        self.same([len(book), book.tally()], [40, (80, 40, 2)])


class Watching(LiveCase):
    def test_noted(self):
        for log in live_samples.logs(size=12, step=2):
            wrote = []
            want = plain_live.Book(*log[:4])
            for event in log[4]:
                want.do(event)
                wrote.append((event, len(want.wrote)))
            for least in (0, 1, 2, 3, GREAT):
                book = LiveMarks(*log[:4])
                self.same(book.watch(least), None)
                book.do_all(log[4])
                noted = tuple(pair for pair in wrote if pair[1] >= least)
                self.same(book.noted(), noted)
                book.undo(len(book))
                self.same(book.noted(), noted)

    def test_no_watch(self):
        book = LiveMarks(SUM, 9, 9, 9)
        book.do(("commit", 0, 1))
        self.same(book.noted(), ())
        book.watch(None)
        book.do(("commit", 0, 1))
        self.same(book.noted(), ())

    def test_one_in_place_of_another(self):
        book = LiveMarks(SUM, 9, 9, 9)
        book.watch(0)
        book.do(("usual", 5, 5))
        book.watch(1)
        book.do(("usual", 6, 6))
        book.do(("commit", 0, 1))
        book.watch(2)
        book.do(("commit", 0, 2))
        book.do(("graft", 0, (0, 0, 0), (1, 2, 3)))
        notes = ((("usual", 5, 5), 0), (("commit", 0, 1), 1), (("graft", 0, (0, 0, 0), (1, 2, 3)), 3))
        self.same(book.noted(), notes)
        self.same(book.watch(many=None), None)
        book.do(("graft", 0, (0, 0, 0), (1, 2, 3)))
        self.same(book.noted(), notes)
        book.watch(0)
        book.do(("usual", 5, 5))
        self.same(book.noted(), notes + ((("usual", 5, 5), 0),))

    def test_notes_stay_behind_undo_and_do_all(self):
        book = LiveMarks(SUM, 9, 9, 9)
        book.watch(1)
        book.do_all((("commit", 0, 1), ("commit", 1, 2)))
        book.undo(2)
        with self.assertRaises(InvalidEvent):
            book.do_all((("commit", 0, 3), ("drop", 7)))
        with self.assertRaises(InvalidEvent):
            book.do_all((("commit", 0, 4), ("drop", 7)), True)
        self.same(book.noted(), tuple((event, 1) for event in (
            ("commit", 0, 1), ("commit", 1, 2), ("commit", 0, 3), ("commit", 0, 4),
        )))

    def test_what_is_refused_is_not_noted(self):
        book = LiveMarks(SUM, 9, 9, 9)
        book.watch(0)
        with self.assertRaises(InvalidEvent):
            book.do(("drop", 1))
        book.barred(("commit", 0, 1))
        book.tried(("commit", 0, 1))
        self.same(book.noted(), ())

    def test_refusals(self):
        book = LiveMarks(SUM, 9, 9, 9)
        book.watch(2)
        for wrong in (-1, -GREAT, True, False, "0", "", (), (1,), [], [1]):
            self.raised("NotUsable", {"word": "many", "at": -1}, lambda: book.watch(wrong))
        book.do(("graft", 0, (0, 0), (1, 2)))
        book.do(("commit", 0, 1))
        self.same(book.noted(), ((("graft", 0, (0, 0), (1, 2)), 2),))


class Signs(LiveCase):
    def alike(self, one, other, want):
        self.same([one == other, other == one, one != other, other != one], [want, want, not want, not want])

    def test_equal(self):
        for log in live_samples.logs(size=8, step=2):
            one, other = live_book(log), live_book(log)
            self.alike(one, other, True)
            # Neither events nor counts matter, nor watches.
            other.watch(0)
            other.do(("usual", 1, 1))
            other.undo()
            self.alike(one, other, True)
            other.do(("usual", *other.usual_now()))
            self.alike(one, other, True)

    def test_another_way_to_the_same(self):
        one, other = LiveMarks(SUM, 3, 3, 3), LiveMarks(SUM, 3, 1, 1)
        one.do_all((("commit", 0, 1), ("commit", 0, 2)))
        self.alike(one, other, False)
        other.do_all((("usual", 3, 3), ("graft", 0, (0, 0), (1, 5)), ("mend", 2, 2)))
        self.alike(one, other, True)

    def test_unlike(self):
        book = LiveMarks(SUM, 3, 3, 3)
        self.alike(book, LiveMarks(("peak",), 3, 3, 3), False)
        self.alike(book, LiveMarks(SUM, 4, 3, 3), False)
        self.alike(book, LiveMarks(SUM, 3, 2, 3), False)
        self.alike(book, LiveMarks(SUM, 3, 3, 2), False)
        book.do(("commit", 0, 1))
        for event in (("commit", 0, 2), ("pledge", 0, 1, 2, 3), ("pledge", 0, 1, 3, 2), ("graft", 0, (0, 1), (1, 1))):
            other = LiveMarks(SUM, 3, 3, 3)
            other.do(event)
            self.alike(book, other, False)
        one, other = LiveMarks(SUM, 3, 3, 3), LiveMarks(SUM, 3, 3, 3)
        one.do(("graft", 0, (0, 0), (1, 1)))
        other.do(("graft", 0, (0, 1), (1, 1)))
        self.alike(one, other, False)

    def test_nothing_else(self):
        book = LiveMarks(SUM, 3, 3, 3)
        for thing in (None, True, 0, (), [], "", book.log_now(), book.history_now(), object(), LiveMarks, Told(SUM, (), ())):
            self.alike(book, thing, False)

    def test_len(self):
        book = LiveMarks(SUM, 3, 3, 3)
        for many in range(5):
            self.same(len(book), many)
            book.do(("usual", 1, 1))
        book.undo(3)
        self.same(len(book), 2)

    def test_versions_in_it(self):
        for log in live_samples.logs(size=6, step=2):
            book = live_book(log)
            many = len(book.history_now())
            self.same([version in book for version in range(many + 1)], [True] * (many + 1))
            for bad in samples.no_versions(book.history_now()) + ([], {}, "x", 0.5):
                self.same(bad in book, False, bad)
                self.same(bad not in book, True, bad)

    def test_apart_from_each_other(self):
        one, other = LiveMarks(SUM, 3, 3, 3), LiveMarks(SUM, 3, 3, 3)
        one.do(("commit", 0, 1))
        one.watch(0)
        self.same([len(other), other.tally(), other.history_now()], [0, (0, 0, 0), ()])

    def test_a_refused_call_changes_nothing_but_counts(self):
        book = LiveMarks(SUM, 2, 2, 2)
        book.do_all((("commit", 0, 5), ("commit", 1, 7)))
        before = self.all_told(book)
        for call, error in (
            (lambda: book.do(("drop", 3)), InvalidEvent), (lambda: book.tried(("drop", 3)), InvalidEvent),
            (lambda: book.do_all((("drop", 1), None)), InvalidEvent), (lambda: book.undo(3), MarkError),
            (lambda: book.undo(True), NotUsable), (lambda: book.watch(-1), NotUsable), (lambda: book.state_now(3), NotUsable),
            (lambda: book.do_all([]), NotUsable), (lambda: book.do_all((), 0), NotUsable),
        ):
            with self.assertRaises(error):
                call()
            self.same(self.all_told(book), before)


class Plain(Case):
    def test_what_methods_take(self):
        book = LiveMarks(SUM, 2, 2, 2)
        for call in (lambda: book.do(), lambda: book.undo(1, 2), lambda: book.do_all(), lambda: book.watch(), lambda: book.tally(1)):
            with self.assertRaises(TypeError):
                call()
        self.same(book.do(event=("commit", 0, 5)), None)
        self.same(book.barred(event=("drop", 2)), "form")
        self.same(book.tried(event=("drop", 1)).history_now(), ())
        self.same(book.state_now(version=1), 5)
