"""Events and logs, by their form."""
from sincemarks.liveevents import is_event, is_log
from tests import live_samples, plain_live, samples, sheet_samples
from tests.cases import Case
from tests.sheet_samples import NO_NUMBERS

SUM, TEXT = ("sum",), ("text",)


class Events(Case):
    def test_by_hand(self):
        self.gives(True, is_event, SUM, 0, ("take", 0, 0))
        self.gives(False, is_event, SUM, 2, ("mend", 0, 5))
        self.gives(False, is_event, SUM, 1, ("drop", True))
        self.gives(True, is_event, SUM, 2, ("mend", 2, 5))
        self.gives(False, is_event, SUM, 2, ("mend", 3, 5))
        self.gives(True, is_event, SUM, 0, ("commit", 0, 5))
        self.gives(False, is_event, SUM, 0, ("commit", 1, 5))
        self.gives(True, is_event, TEXT, 0, ("pledge", 0, "ab", 999, 999))
        self.gives(False, is_event, TEXT, 0, ("pledge", 0, "ab", 1000, 999))
        self.gives(False, is_event, TEXT, 0, ("pledge", 0, "ab", 1, 0))
        self.gives(True, is_event, SUM, 0, ("usual", 1, 999))
        self.gives(False, is_event, SUM, 0, ("bound", 0, 1, 1))
        self.gives(False, is_event, SUM, 1, ("bound", 0, 1, 1))
        self.gives(True, is_event, SUM, 1, ("bound", 1, 1, 1))
        self.gives(True, is_event, SUM, 0, ("graft", 0, (0, 0), (1, 2)))
        self.gives(False, is_event, SUM, 0, ("graft", 0, (), ()))
        self.gives(False, is_event, SUM, 5, ("graft", 6, (0,), (1,)))
        self.gives(False, is_event, SUM, 0, ("graft", 0, (0, 0), (1,)))
        self.gives(True, is_event, SUM, samples.GREAT, ("take", samples.GREAT, 0))
        self.gives(False, is_event, SUM, 3, ("take", 0, 4))
        self.gives(False, is_event, SUM, 3, ("take", 4, 0))

    def test_what_is_none(self):
        for thing in live_samples.no_events():
            self.assertFalse(plain_live.is_event(SUM, 2, thing), thing)
            self.gives(False, is_event, SUM, 2, thing)

    def test_odd_things(self):
        for thing in samples.ANY:
            self.gives(False, is_event, SUM, 2, thing)
            for name in plain_live.NAMES:
                for event in ((name, thing), (name, 1, thing), (name, 1, 2, thing), (name, thing, 1), (name, 1, thing, 2)):
                    self.gives(plain_live.is_event(SUM, 2, event), is_event, SUM, 2, event)

    def test_any(self):
        for kind in samples.NINE:
            source = samples.chance("events", kind)
            for _ in range(60):
                many = source.randint(0, 5)
                event = live_samples.some_event(kind, many, 9, source)
                for some in {many, 0, many + 1, many - 1} - {-1}:
                    self.gives(plain_live.is_event(kind, some, event), is_event, kind, some, event)
                for other in samples.NINE:
                    self.gives(plain_live.is_event(other, many, event), is_event, other, many, event)

    def test_changes_of_each_kind(self):
        for kind in samples.NINE:
            good = samples.changes_of(kind)[1]
            for bad in sheet_samples.no_change(kind):
                for event in (
                    ("commit", 0, bad), ("pledge", 0, bad, 1, 1), ("mend", 1, bad), ("graft", 0, (0,), (bad,)),
                    ("graft", 0, (0, 0), (good, bad)),
                ):
                    self.gives(False, is_event, kind, 1, event)
            for event in (("commit", 0, good), ("pledge", 0, good, 1, 1), ("mend", 1, good), ("graft", 1, (0, 1), (good, good))):
                self.gives(True, is_event, kind, 1, event)

    def test_each_version(self):
        for many in range(4):
            for version in range(-1, 6):
                self.gives(0 <= version <= many, is_event, SUM, many, ("commit", version, 1))
                self.gives(0 <= version <= many, is_event, SUM, many, ("pledge", version, 1, 1, 1))
                self.gives(0 <= version <= many, is_event, SUM, many, ("take", version, 0))
                self.gives(0 <= version <= many, is_event, SUM, many, ("take", 0, version))
                self.gives(0 <= version <= many, is_event, SUM, many, ("graft", version, (0,), (1,)))
                self.gives(1 <= version <= many, is_event, SUM, many, ("mend", version, 1))
                self.gives(1 <= version <= many, is_event, SUM, many, ("drop", version))
                self.gives(1 <= version <= many, is_event, SUM, many, ("bound", version, 1, 1))

    def test_refusals(self):
        self.refuses_each(is_event, (SUM, 2, ("drop", 1)), {"kind": samples.NO_KINDS, "many": NO_NUMBERS})
        self.refuses("kind", is_event, None, None, None)
        self.refuses("many", is_event, SUM, None, None)


class Logs(Case):
    def test_by_hand(self):
        self.gives(True, is_log, (SUM, 2, 2, 2, (("commit", 0, 5), ("drop", 1))))
        self.gives(False, is_log, (SUM, 2, 2, 2, (("drop", 1),)))
        self.gives(True, is_log, (SUM, 2, 2, 2, ()))
        self.gives(False, is_log, (SUM, 2, 2, 3, ()))
        self.gives(True, is_log, (SUM, 999, 999, 999, ()))
        self.gives(True, is_log, (("turn", 9), 3, 1, 2, ()))

    def test_what_is_none(self):
        for thing in live_samples.no_logs() + samples.ANY:
            self.assertFalse(plain_live.is_log(thing), thing)
            self.gives(False, is_log, thing)

    def test_any(self):
        for log in live_samples.logs():
            self.gives(True, is_log, log)
            events = log[4]
            for k in range(0, len(events), 4):
                # With one event less those behind it may name versions that are not there.
                bent = log[:4] + (events[:k] + events[k + 1:],)
                self.gives(plain_live.is_log(bent), is_log, bent)
                bent = log[:4] + (events[:k] + (("drop", 1),) + events[k:],)
                self.gives(plain_live.is_log(bent), is_log, bent)
                bent = log[:4] + (events[:k] + (None,) + events[k:],)
                self.gives(False, is_log, bent)

    def test_as_many_changes_as_there_are_by_then(self):
        for events, many in (
            ((), 0), ((("commit", 0, 1),), 1), ((("pledge", 0, 1, 1, 1),), 1), ((("take", 0, 0),), 1), ((("usual", 1, 1),), 0),
            ((("graft", 0, (0, 1, 2), (1, 2, 3)),), 3), ((("commit", 0, 1), ("drop", 1)), 0),
            ((("commit", 0, 1), ("mend", 1, 5), ("bound", 1, 1, 1)), 1), ((("graft", 0, (0, 0), (1, 2)), ("drop", 1)), 1),
            ((("graft", 0, (0, 0), (1, 2)), ("drop", 2), ("take", 1, 0), ("commit", 2, 1)), 3),
        ):
            self.gives(True, is_log, (SUM, 2, 2, 2, events))
            for version in range(many + 3):
                for event in (("commit", version, 1), ("take", version, 0), ("take", 0, version)):
                    self.gives(version <= many, is_log, (SUM, 2, 2, 2, events + (event,)))
                for event in (("drop", version), ("mend", version, 1), ("bound", version, 1, 1)):
                    self.gives(1 <= version <= many, is_log, (SUM, 2, 2, 2, events + (event,)))

    def test_what_a_book_refuses_is_let_in(self):
        for log in (
            (SUM, 2, 2, 2, (("usual", 5, 999),)), (SUM, 1, 1, 1, (("commit", 0, 1), ("commit", 1, 1), ("commit", 2, 1))),
            (SUM, 2, 2, 2, (("usual", 1, 1),) * 60), (SUM, 9, 9, 9, (("commit", 0, 1),) * 60),
            (SUM, 2, 2, 2, (("graft", 0, tuple(range(30)), (1,) * 30), ("drop", 30))),
        ):
            self.gives(True, is_log, log)
