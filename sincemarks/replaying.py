"""Live books made from logs."""
from sincemarks.live import LiveMarks
from sincemarks.liveevents import is_log
from sincemarks.usable import require


def replayed(log):
    """A new book in which the events of a log are done."""
    require(is_log(log), "log")
    kind, roof, width, reach, events = log
    book = LiveMarks(kind, roof, width, reach)
    for event in events:
        book.do(event)
    return book
