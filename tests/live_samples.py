"""Events, logs, and what is none, for the tests."""
from tests import plain_live, samples

LEVELS = ((1, 1, 1), (2, 2, 2), (3, 2, 2), (3, 1, 3), (5, 3, 2), (4, 4, 1), (9, 3, 9), (999, 999, 999))
SUM, TEXT = ("sum",), ("text",)


def some_pair(source, roof):
    width = source.choice((1, 2, 3, 5, 999, source.randint(1, 9)))
    return width, source.choice((1, 2, roof, source.randint(1, roof), source.randint(1, min(999, roof + 2))))


def some_event(kind, many, roof, source, steep=0.5):
    """An event of the kind for many changes; it may be refused. Fewer new versions the steeper."""
    names = ["commit", "commit", "commit", "pledge", "pledge", "take", "graft"]
    if source.random() < steep:
        names = ["mend", "drop", "bound", "bound", "usual", "take"]
    name = source.choice(names)
    if many == 0 and name in ("mend", "drop", "bound"):
        name = "commit"
    low = 1 if name in ("mend", "drop", "bound") else 0
    version = source.choice((many, source.randint(low, many)))
    change = samples.some_change(kind, source)
    if name in ("commit", "mend"):
        return name, version, change
    if name == "pledge":
        return (name, version, change, *some_pair(source, roof))
    if name == "take":
        return name, version, source.randint(0, many)
    if name == "drop":
        return name, version
    if name == "graft":
        size = source.randint(1, 4)
        return name, version, samples.some_history(size, source), samples.some_changes(kind, size, source)
    if name == "bound":
        return (name, version, *some_pair(source, roof))
    return (name, *some_pair(source, roof))


def some_log(kind, level, size, *seed, most=10 ** 9):
    """A log of which no event is refused, with at most so many changes at any time."""
    source = samples.chance("log", kind, level, size, *seed)
    book = plain_live.Book(kind, *level)
    events = []
    steep = source.choice((0.2, 0.5, 0.7))
    for _ in range(6 * size):
        event = some_event(kind, len(book.names), level[0], source, steep)
        few = plain_live.many_after(len(book.names), event) <= most
        if len(events) < size and few and book.reason(len(events), event) is None:
            book.do(event)
            events.append(event)
    return (kind, *level, tuple(events))


def logs(kinds=samples.NINE, size=14, step=1):
    for k, kind in enumerate(kinds):
        for level in LEVELS[k % 2::2 * step]:
            yield some_log(kind, level, size)


# For a book of sums with two changes: what is no event, however like one it looks.
def no_events():
    good = {
        "commit": (0, 5), "pledge": (0, 5, 2, 2), "take": (1, 2), "mend": (1, 5), "drop": (1,), "graft": (0, (0, 1), (5, 6)),
        "bound": (1, 2, 2), "usual": (2, 2),
    }
    bad = {
        "version": (-1, 3, True, False, None, "1", (1,), [1], samples.GREAT), "later": (0, -1, 3, True, None, "1", (1,), samples.GREAT),
        "change": (True, None, "5", (5,), [5], "", False), "bound": (0, -1, 1000, True, None, "2", (2,), samples.GREAT),
        "parents": ((), [0, 1], (1,), (0, 2), (0, True), None, 0, "0", (False, 1), ((0,), 1)),
        "changes": ((), (5,), (5, 6, 7), [5, 6], (5, True), (None, 6), None, 5, "56", ((5, 6),)),
    }
    forms = {
        "commit": ("version", "change"), "pledge": ("version", "change", "bound", "bound"), "take": ("version", "version"),
        "mend": ("later", "change"), "drop": ("later",), "graft": ("version", "parents", "changes"),
        "bound": ("later", "bound", "bound"), "usual": ("bound", "bound"),
    }
    found = [None, True, 0, "", "commit", (), [], ("",), (None,), (0, 5), ((),), (("commit",),), ("Commit", 0, 5), ([], 0), {}]
    for name, parts in good.items():
        found += [(name, *parts[:-1]), (name, *parts, 1), (name, *parts, None), [name, *parts], (name,), (name, parts)]
        found += [(name + " ", *parts), (name.upper(), *parts), (True, *parts), (None, *parts), ([name], *parts), ((name,), *parts)]
        for k, form in enumerate(forms[name]):
            found += [(name, *parts[:k], wrong, *parts[k + 1:]) for wrong in bad[form]]
    return tuple(found)


def no_logs():
    """What is no log."""
    good = (("commit", 0, 5), ("commit", 1, 6), ("mend", 2, 7))
    found = [
        None, True, 0, "", "log", (), [], (SUM, 2, 2, 2), (SUM, 2, 2, 2, good, ()), [SUM, 2, 2, 2, good], (SUM,), good,
        (SUM, 2, 2, 2, list(good)), (SUM, 2, 2, 2, None), (SUM, 2, 2, 2, "x"), (SUM, 2, 2, 2, 5), (SUM, 2, 2, 2, good[0]),
        (SUM, 2, 2, 3, good), (SUM, 1, 5, 2, ()), (SUM, 2, 2, 2, good + (None,)), (SUM, 2, 2, 2, ([],) + good),
    ]
    found += [(kind, 2, 2, 2, ()) for kind in samples.NO_KINDS]
    for wrong in (0, -1, 1000, True, False, None, "2", (2,), samples.GREAT):
        found += [(SUM, wrong, 1, 1, ()), (SUM, 2, wrong, 1, ()), (SUM, 2, 1, wrong, good)]
    # Events that are none by then.
    found += [
        (SUM, 2, 2, 2, (("drop", 1),)), (SUM, 2, 2, 2, (("commit", 1, 5),)), (SUM, 2, 2, 2, good + (("take", 0, 3),)),
        (SUM, 2, 2, 2, good + (("drop", 1), ("mend", 2, 5))), (SUM, 2, 2, 2, good + (("drop", 2), ("drop", 1), ("drop", 1))),
        (SUM, 2, 2, 2, (("graft", 0, (0, 1), (5, 6)), ("commit", 3, 1))), (SUM, 2, 2, 2, (("commit", 0, "a"),)),
        (SUM, 2, 2, 2, (("graft", 1, (0,), (5,)),)), (SUM, 2, 2, 2, (("usual", 2, 2), ("bound", 1, 2, 2))),
        (SUM, 2, 2, 2, good[:1] + (("pledge", 2, 1, 1, 1),)), (SUM, 2, 2, 2, good[:1] + (("mend", 0, 1),)),
    ]
    return tuple(found)
