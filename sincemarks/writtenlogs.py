"""What the events of a log had to write."""
from sincemarks.live import LiveMarks
from sincemarks.liveevents import is_log
from sincemarks.usable import require


def written_in(log):
    """For each event of a log, the set of the versions whose sheets it had to write."""
    require(is_log(log), "log")
    kind, roof, width, reach, events = log
    book = LiveMarks(kind, roof, width, reach)
    written = []
    for event in events:
        book.do(event)
        written.append(book.wrote_now())
    return tuple(written)


def written_many(log):
    """How many sheets the events of a log had to write, in all."""
    return sum([len(versions) for versions in written_in(log)])
