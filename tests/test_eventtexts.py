"""Events and logs as lines."""
import re

from sincemarks.changetexts import change_word, read_change
from sincemarks.errors import InvalidText
from sincemarks.eventtexts import event_line, log_lines, read_event, read_log
from tests import live_samples, plain_live, samples, sheet_samples, text_samples
from tests.cases import Case
from tests.samples import GREAT

SUM, TEXT, SET = ("sum",), ("text",), ("set",)
MORE = text_samples.MORE + ("=a", "commit", "graft", "drop", "3", "5")


def number_in(word):
    return int(word) if re.fullmatch("0|[1-9][0-9]*", word) else None


def change_in(kind, word):
    if kind == SUM:
        return int(word) if re.fullmatch("0|-?[1-9][0-9]*", word) else None
    if kind == TEXT:
        return word[1:] if re.fullmatch("=[a-z]*", word) else None
    try:
        return read_change(kind, word)
    except InvalidText:
        return None


def up_to(least, most):
    return lambda word: number_in(word) if number_in(word) is not None and least <= number_in(word) <= most else None


def readers_for(kind, words):
    """What reads each word behind the first one, as far as the words tell it; None for a name that is none."""
    version, later, bound = up_to(0, float("inf")), up_to(1, float("inf")), up_to(1, 999)

    def change(word):
        return change_in(kind, word)
    readers = {
        "commit": [version, change], "pledge": [version, change, bound, bound], "take": [version, version],
        "mend": [later, change], "drop": [later], "bound": [later, bound, bound], "usual": [bound, bound],
        "graft": [version, later],
    }.get(words[0])
    if words[0] == "graft" and len(words) > 2 and later(words[2]) is not None:
        # No more readers than there are words and one more.
        many = later(words[2])
        few = min(many, len(words))
        readers += [up_to(0, k) for k in range(few)] + [change] * few
        if few < many:
            readers += [version]
    return readers


def read(kind, words):
    """The event and None, or None and the field at which the words are no event."""
    readers = readers_for(kind, words)
    if readers is None:
        return None, 0
    parts = []
    for k, word in enumerate(words[1:]):
        part = readers[k](word) if k < len(readers) else None
        if part is None:
            return None, k + 1
        parts.append(part)
    if len(parts) < len(readers):
        return None, len(words)
    if words[0] == "graft":
        many = parts[1]
        return ("graft", parts[0], tuple(parts[2:2 + many]), tuple(parts[2 + many:])), None
    return (words[0], *parts), None


def line_of(kind, event):
    words = [event[0]]
    for k, part in enumerate(event[1:], start=1):
        if event[0] == "graft" and k == 2:
            words += [str(len(part)), *[str(parent) for parent in part]]
        elif event[0] == "graft" and k == 3:
            words += [change_word(kind, change) for change in part]
        elif event[0] in ("commit", "pledge", "mend") and k == 2:
            words.append(change_word(kind, part))
        else:
            words.append(str(part))
    return " ".join(words)


def some_events(kind):
    """Events of each name."""
    good = samples.changes_of(kind)[:4]
    yield from (
        ("commit", 0, good[1]), ("commit", GREAT, good[2]), ("pledge", 3, good[0], 1, 999), ("take", 0, 7), ("take", 7, 0),
        ("mend", 1, good[0]), ("drop", 12), ("graft", 0, (0,), good[:1]), ("graft", 5, (0, 1, 0, 3)[:len(good)], good),
        ("bound", 2, 3, 4), ("usual", 999, 1), ("graft", 2, (0, 0, 1), (good[1], good[0], good[1])),
    )


class Events(Case):
    def looked_at(self, kind, text):
        event, field = read(kind, text.split(" "))
        if field is None:
            self.gives(event, read_event, kind, text)
            self.gives(text, event_line, kind, event)
        else:
            self.fails("InvalidText", (0, field), read_event, kind, text)

    def test_by_hand(self):
        self.gives("graft 0 2 0 1 =ab =", event_line, TEXT, ("graft", 0, (0, 1), ("ab", "")))
        self.gives("commit 0 -5", event_line, SUM, ("commit", 0, -5))
        self.gives("pledge 3 - 2 1", event_line, SET, ("pledge", 3, (), 2, 1))
        self.gives("usual 999 1", event_line, SUM, ("usual", 999, 1))
        self.gives(("drop", 3), read_event, SUM, "drop 3")
        self.gives(("graft", 0, (0, 1), ("ab", "")), read_event, TEXT, "graft 0 2 0 1 =ab =")
        for text, field in (
            ("mend 0 5", 1), ("", 0), (" ", 0), ("Drop 3", 0), ("drop", 1), ("drop ", 1), ("drop 0", 1), ("drop 3 ", 2),
            ("drop 3 4", 2), ("drop 03", 1), ("drop +3", 1), ("drop 3\n", 1), ("drop  3", 1), ("drop -3", 1), ("drop\n3", 0),
            ("commit 0", 2), ("commit 0 x", 2), ("commit x", 1), ("commit 0 5 6", 3), ("commit -1 5", 1), ("take 0", 2),
            ("take 0 -1", 2), ("usual 0 1", 1), ("usual 1 1000", 2), ("usual 1000 1", 1), ("usual 1", 2), ("usual 1 0", 2),
            ("bound 0 1 1", 1), ("bound 1 0 1", 2), ("bound 1 1 0", 3), ("bound 1 1", 3), ("bound 1 1 1 1", 4),
            ("pledge 0 5 1", 4), ("pledge 0 5 1000 1", 3), ("pledge 0 5 1 1000", 4), ("pledge 0 5 1 1 1", 5),
            ("graft", 1), ("graft 0", 2), ("graft 0 0", 2), ("graft 0 -1", 2), ("graft 0 x", 2), ("graft 0 1", 3),
            ("graft 0 1 1", 3), ("graft 0 1 0", 4), ("graft 0 1 0 x", 4), ("graft 0 1 0 5 6", 5), ("graft 0 2 0 2", 4),
            ("graft 0 2 0 1 5", 6), ("graft 0 2 0 1 5 6 7", 7), ("graft 0 2 0 1 x 6 7", 5), ("graft 0 2 0", 4),
            ("graft 0 3 0 1 5 6", 5), ("graft x 1 0 5", 1), ("graft 0 1 0 5 ", 5), ("graft 0 01 0 5", 2),
            ("graft 0 " + "9" * 30, 3), ("graft 0 " + "9" * 30 + " 0 1 2", 6), ("graft 0 " + "9" * 30 + " 0 2 x", 4),
            ("graft 0 " + "9" * 3900, 3), ("usual 1 1 1", 3), ("undo", 0), ("begin sum 2 2 2", 0),
        ):
            self.fails("InvalidText", (0, field), read_event, SUM, text)
            self.same(read(SUM, text.split(" ")), (None, field))

    def test_there_and_back(self):
        for kind in samples.NINE:
            for event in some_events(kind):
                self.assertTrue(plain_live.is_event(kind, None, event), event)
                self.gives(line_of(kind, event), event_line, kind, event)
                self.gives(event, read_event, kind, line_of(kind, event))
        for log in live_samples.logs(step=2):
            for event in log[4]:
                self.gives(line_of(log[0], event), event_line, log[0], event)
                self.gives(event, read_event, log[0], line_of(log[0], event))

    def test_near_lines(self):
        for kind in (SUM, TEXT):
            for event in list(some_events(kind))[::2]:
                for text in text_samples.near_texts(line_of(kind, event), MORE):
                    self.looked_at(kind, text)

    def test_near_lines_of_other_kinds(self):
        for kind in samples.NINE:
            for event in list(some_events(kind))[1::3]:
                for text in list(text_samples.near_texts(line_of(kind, event), ("", "x", "-", "5", "=")))[::3]:
                    self.looked_at(kind, text)

    def test_lines_of_another_kind(self):
        for kind in samples.NINE:
            for event in some_events(kind):
                for other in samples.NINE:
                    self.looked_at(other, line_of(kind, event))

    def test_great_versions(self):
        for event in (("commit", GREAT, 5), ("take", GREAT, GREAT), ("drop", GREAT), ("graft", GREAT, (0,), (GREAT,))):
            self.gives(event, read_event, SUM, line_of(SUM, event))
            self.gives(line_of(SUM, event), event_line, SUM, event)

    def test_refusals(self):
        bad = [thing for thing in live_samples.no_events() if not plain_live.is_event(SUM, None, thing)]
        self.refuses_each(event_line, (SUM, ("drop", 1)), {"kind": samples.NO_KINDS, "event": bad})
        for kind in samples.NINE:
            wrong = [("commit", 0, change) for change in sheet_samples.no_change(kind)]
            self.refuses_each(event_line, (kind, ("drop", 1)), {"event": wrong})
        self.refuses_each(read_event, (SUM, "drop 1"), {"kind": samples.NO_KINDS, "text": samples.NO_TEXTS})


def place_of(lines):
    """The log and None, or None and the place at which lines are no log."""
    kinds = {"kind sum": SUM, "kind text": TEXT, "kind turn 3": ("turn", 3)}
    many, events = 0, []
    for at, text in enumerate(lines):
        words = text.split(" ")
        if at == 0:
            if text not in kinds:
                return None, (0, 0 if words[0] != "kind" else 2 if text in ("kind sum x", "kind turn", "kind turn x") else 1)
            kind = kinds[text]
        elif at == 1:
            if words[0] != "live":
                return None, (1, 0)
            for k, word in enumerate(words[1:], start=1):
                most = number_in(words[1]) if k == 3 else 999
                if k > 3 or number_in(word) is None or not 1 <= number_in(word) <= most:
                    return None, (1, k)
            if len(words) < 4:
                return None, (1, len(words))
            level = tuple(int(word) for word in words[1:])
        else:
            event, field = read(kind, words)
            if field is not None:
                return None, (at, field)
            if not plain_live.is_event(kind, many, event):
                return None, (at, 0)
            many = plain_live.many_after(many, event)
            events.append(event)
    if len(lines) < 2:
        return None, (len(lines), 0)
    return (kind, *level, tuple(events)), None


GOOD = ("kind sum", "live 3 2 3", "commit 0 5", "graft 1 2 0 1 7 -8", "mend 3 1", "drop 2", "take 0 2", "usual 1 3")


class Logs(Case):
    def looked_at(self, lines):
        log, place = place_of(lines)
        if place is None:
            self.gives(log, read_log, lines)
            self.gives(lines, log_lines, log)
        else:
            self.fails("InvalidText", place, read_log, lines)

    def test_by_hand(self):
        self.fails("InvalidText", (3, 0), read_log, ("kind sum", "live 2 2 2", "commit 0 5", "drop 2"))
        log = (TEXT, 3, 5, 2, (("commit", 0, "a"), ("take", 0, 1)))
        self.gives(("kind text", "live 3 5 2", "commit 0 =a", "take 0 1"), log_lines, log)
        self.gives(log, read_log, ("kind text", "live 3 5 2", "commit 0 =a", "take 0 1"))
        self.gives(("kind turn 4", "live 1 1 1"), log_lines, (("turn", 4), 1, 1, 1, ()))
        self.gives((("turn", 4), 1, 1, 1, ()), read_log, ("kind turn 4", "live 1 1 1"))
        for lines, place in (
            ((), (0, 0)), (("kind sum",), (1, 0)), (("kind x",), (0, 1)), (("",), (0, 0)), (("kind",), (0, 1)),
            (("kind affine 1", "live x"), (0, 2)), (("kind sum", "live 2 2"), (1, 3)), (("kind sum", "live"), (1, 1)),
            (("kind sum", "live 2 2 3"), (1, 3)), (("kind sum", "live 0 2 2"), (1, 1)), (("kind sum", "live 2 0 2"), (1, 2)),
            (("kind sum", "live 1000 2 2"), (1, 1)), (("kind sum", "live 2 1000 2"), (1, 2)), (("kind sum", "live 2 2 2 2"), (1, 4)),
            (("kind sum", "live 2 2 0"), (1, 3)), (("kind sum", "Live 2 2 2"), (1, 0)), (("kind sum", ""), (1, 0)),
            (("kind sum", "live 2 2 2 "), (1, 4)), (("kind sum", "live 02 2 2"), (1, 1)), (("kind sum", "live 2 2 2", ""), (2, 0)),
            (("kind sum", "live 2 2 2", "commit 1 5"), (2, 0)), (("kind sum", "live 2 2 2", "commit 1 x"), (2, 2)),
            (("kind sum", "live 2 2 2", "drop 1"), (2, 0)), (("kind sum", "live 2 2 2", "commit 0 5", "mend 1 =a"), (3, 2)),
            (("kind sum", "live 2 2 2", "commit 0 5", "drop 1", "drop 1", "x"), (4, 0)), (("kind x", "live 0 0 0", "x"), (0, 1)),
            (("live 2 2 2", "kind sum"), (0, 0)), (("kind sum", "kind sum"), (1, 0)), (("kind sum", "commit 0 5"), (1, 0)),
        ):
            self.fails("InvalidText", place, read_log, lines)

    def test_there_and_back(self):
        for log in live_samples.logs():
            lines = self.answer(log_lines, log)
            self.same(lines[1:], (f"live {log[1]} {log[2]} {log[3]}", *[line_of(log[0], event) for event in log[4]]))
            self.same(lines[0], " ".join(["kind", *[str(part) for part in log[0]]]))
            self.gives(log, read_log, lines)

    def test_lines_more_less_exchanged(self):
        self.looked_at(GOOD)
        for k in range(len(GOOD) + 1):
            self.looked_at(GOOD[:k])
            self.looked_at(GOOD[:k] + GOOD[k + 1:])
            for text in ("", "drop 9", "drop 3", "commit 0 1", "kind sum", "live 2 2 2", "x"):
                self.looked_at(GOOD[:k] + (text,) + GOOD[k:])
                self.looked_at(GOOD[:k] + (text,) + GOOD[k + 1:])
            for m in range(k + 1, len(GOOD)):
                bent = list(GOOD)
                bent[k], bent[m] = bent[m], bent[k]
                self.looked_at(tuple(bent))

    def test_spoilt_in_two_places(self):
        bad = ("live 3 2 9", "commit 0 x", "commit 9 5", "drop", "", "usual 1 1 1")
        for k in range(1, len(GOOD)):
            for m in range(k, len(GOOD)):
                for one in bad:
                    bent = list(GOOD)
                    bent[k], bent[m] = one, bad[(k + m) % len(bad)]
                    self.looked_at(tuple(bent))

    def test_near_lines(self):
        for k in range(1, len(GOOD)):
            for text in list(text_samples.near_texts(GOOD[k], MORE))[::2]:
                self.looked_at(GOOD[:k] + (text,) + GOOD[k + 1:])

    def test_what_a_book_refuses_is_read(self):
        for log in ((SUM, 2, 2, 2, (("usual", 5, 999),)), (SUM, 2, 2, 2, (("usual", 1, 1),) * 41)):
            self.gives(log, read_log, log_lines(log))

    def test_refusals(self):
        self.refuses_each(log_lines, ((SUM, 2, 2, 2, ()),), {"log": live_samples.no_logs()})
        self.refuses_each(read_log, (GOOD,), {"lines": (
            None, True, 0, "", "kind sum", list(GOOD), GOOD + (None,), (None,), (GOOD,), GOOD[:2] + (5,), (True,), {}, [],
        )})
