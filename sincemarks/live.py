"""The live book, which follows its history event by event."""
from sincemarks.boundkinds import MOST, is_up_to
from sincemarks.errors import InvalidEvent, NothingToUndo
from sincemarks.heights import bases_by
from sincemarks.historykinds import is_version
from sincemarks.kinds import is_number
from sincemarks.livesteps import applied, first_reason, written_by
from sincemarks.sheetfilling import filled
from sincemarks.states import state_of
from sincemarks.usable import require
from sincemarks.walks import rows_of, walk_heights
from sincemarks.worthkinds import is_kind


class LiveMarks:
    """A history with its changes, bounds that can be kept, and the plan of the walk."""

    # How many events may be there that are not undone.
    LONGEST = 40

    def __init__(self, kind, roof, width, reach):
        require(is_kind(kind), "kind")
        require(is_up_to(MOST, roof), "roof")
        require(is_up_to(MOST, width), "width")
        require(is_up_to(roof, reach), "reach")
        self._kind = kind
        self._level = (roof, width, reach)
        # The history, the changes, the bounds and the usual bounds.
        self._told = ((), (), (roof, ()), (width, reach))
        self._bases = ()
        self._wrote = ()
        self._events = ()
        # These three as they were ahead of each event.
        self._past = ()
        self._done = 0
        self._undone = 0
        self._refused = 0
        self._least = None
        self._notes = ()

    def __len__(self):
        return len(self._events)

    def __eq__(self, other):
        return isinstance(other, LiveMarks) and self._kind == other._kind and self._told == other._told

    def __contains__(self, thing):
        return is_version(self._told[0], thing)

    def kind_now(self):
        """The kind of the changes."""
        return self._kind

    def history_now(self):
        """The history."""
        return self._told[0]

    def changes_now(self):
        """The changes, from version 1 on."""
        return self._told[1]

    def bounds_now(self):
        """The bounds."""
        return self._told[2]

    def usual_now(self):
        """The bounds that new versions get, a pair (width, reach)."""
        return self._told[3]

    def rows_now(self):
        """The rows of the walk, from version 1 on."""
        return rows_of(self._told[0], self._told[2])

    def bases_now(self):
        """The bases of the walk's heights."""
        return self._bases

    def sheets_now(self):
        """The worths of the sheets, from version 1 on."""
        return filled(self._kind, self._told[0], self._told[1], self._bases)

    def state_now(self, version):
        """The state of a version."""
        return state_of(self._kind, self._told[0], self._told[1], version)

    def wrote_now(self):
        """The set of the versions whose sheets the last event had to write, () without one."""
        return self._wrote

    def do(self, event):
        """Apply an event; InvalidEvent tells why it is refused."""
        reason = self.barred(event)
        if reason is not None:
            self._refused += 1
            raise InvalidEvent(event, reason)
        self._past = self._past + ((self._told, self._bases, self._wrote),)
        self._events = self._events + (event,)
        self._done += 1
        self._told = applied(self._kind, self._told, event)
        history, _, bounds, _ = self._told
        before = self._bases
        self._bases = bases_by(history, walk_heights(history, bounds))
        self._wrote = written_by(event, before, history, self._bases)
        if self._least is not None and len(self._wrote) >= self._least:
            self._notes = self._notes + ((event, len(self._wrote)),)

    def barred(self, event):
        """The reason for which the event would be refused, or None."""
        return first_reason(self._kind, self._told, len(self._events) >= self.LONGEST, event)

    def tried(self, event):
        """A new book with the events of this one, and then this event."""
        roof, width, reach = self._level
        book = LiveMarks(self._kind, roof, width, reach)
        book.do_all(self._events)
        book.do(event)
        return book

    def undo(self, steps=1):
        """Take back as many events, the last ones."""
        require(is_number(steps), "steps")
        left = len(self._events) - steps
        if left < 0:
            raise NothingToUndo(steps)
        if steps > 0:
            self._told, self._bases, self._wrote = self._past[left]
        self._past = self._past[:left]
        self._events = self._events[:left]
        self._undone += steps

    def do_all(self, events, keep=False):
        """Apply events and tell how many; where one is refused, those ahead of it stay only if keep is True."""
        require(isinstance(events, tuple), "events")
        require(isinstance(keep, bool), "keep")
        before = len(self._events)
        for event in events:
            try:
                self.do(event)
            except InvalidEvent:
                if not keep:
                    self.undo(len(self._events) - before)
                raise
        return len(events)

    def events_now(self):
        """The events that are not undone."""
        return self._events

    def log_now(self):
        """The log of these events, with the usual bounds with which the book began."""
        roof, width, reach = self._level
        return (self._kind, roof, width, reach, self._events)

    def tally(self):
        """How many events this book has done, undone and refused."""
        return (self._done, self._undone, self._refused)

    def watch(self, many):
        """From now on, note each event that writes at least many sheets; none if many is None."""
        require(many is None or is_number(many), "many")
        self._least = many

    def noted(self):
        """The pairs (event, how many sheets it wrote) that were noted."""
        return self._notes
