"""[22] Histories and kinds as lines."""
import re

from sincemarks.historytexts import history_line, kind_line, read_history, read_kind
from tests import samples
from tests.cases import Case

KIND_LINES = {
    **{f"kind {name}": (name,) for name in ("sum", "peak", "set", "last", "tail", "text")},
    **{f"kind affine {modulus}": ("affine", modulus) for modulus in range(2, 1000)},
    **{f"kind square {modulus}": ("square", modulus) for modulus in range(2, 1000)},
    **{f"kind turn {size}": ("turn", size) for size in range(1, 10)},
}
# What kind lines begin with: all their first words, one, two, ..
BEGINNINGS = {
    tuple(line.split(" ")[:many]) for line in KIND_LINES for many in range(1, len(line.split(" ")) + 1)
}


def kind_field(text):
    """The field at which a text is no kind line, None if it is one."""
    if text in KIND_LINES:
        return None
    words = tuple(text.split(" "))
    for k in range(len(words)):
        if words[:k + 1] not in BEGINNINGS:
            return k
    return len(words)


def history_field(text):
    """The field at which a text is no history line, None if it is one."""
    for k, word in enumerate(text.split(" ")):
        if k == 0 and word != "history":
            return 0
        if k > 0 and not (re.fullmatch("0|[1-9][0-9]*", word) and int(word) < k):
            return k
    return None


def near(line):
    """The line with words more, less, changed, and with signs put in or taken out."""
    words = line.split(" ")
    more = ("", "0", "1", "7", "-1", "x", "history", "kind", "sum", "turn", "00", "+1", "\n", "999", "1000", "2\n")
    for k in range(len(words) + 1):
        yield " ".join(words[:k])
        yield " ".join(words[k:])
        yield " ".join(words[:k] + words[k + 1:])
        for word in more:
            yield " ".join(words[:k] + [word] + words[k:])
            yield " ".join(words[:k] + [word] + words[k + 1:])
    for k in range(len(line) + 1):
        for sign in " 09-+\nxs,":
            yield line[:k] + sign + line[k:]
            yield line[:k] + sign + line[k + 1:]
        yield line[:k] + line[k + 1:]


class Histories(Case):
    def looked_at(self, text):
        field = history_field(text)
        if field is None:
            history = tuple(int(word) for word in text.split(" ")[1:])
            self.gives(history, read_history, text)
            self.gives(text, history_line, history)
        else:
            self.fails("InvalidText", (0, field), read_history, text)

    def test_lines(self):
        self.gives("history", history_line, ())
        self.gives("history 0", history_line, (0,))
        self.gives("history 0 1 2 1 4 5 6", history_line, samples.FORK)
        for history in samples.HISTORIES:
            line = self.answer(history_line, history)
            self.same(line.split(" "), ["history"] + [f"{parent}" for parent in history])
            self.gives(history, read_history, line)

    def test_fields(self):
        for text, field in (
            ("", 0), (" ", 0), ("\n", 0), ("history\n", 0), (" history", 0), ("History", 0), ("histor", 0),
            ("historys", 0), ("0", 0), ("kind sum", 0), ("\nhistory", 0), (" history 0", 0), ("history,0", 0),
            ("history ", 1), ("history  ", 1), ("history  0", 1), ("history 1", 1), ("history -1", 1),
            ("history -0", 1), ("history 00", 1), ("history +0", 1), ("history 0\n", 1), ("history x", 1),
            ("history 0,1", 1), ("history \n", 1), ("history 0\n1", 1), ("history True", 1),
            ("history 0 2", 2), ("history 0 ", 2), ("history 0  1", 2), ("history 0 01", 2), ("history 0 1\n", 2),
            ("history 0 -1 9", 2), ("history 0 1 3", 3), ("history 0 1 2 ", 4), ("history 0 1 2 4 9", 4),
            ("history 0 1 2 3 history", 5), ("history 0 0 0 0 \n", 5), ("history 0 1 2 3 4 6", 6),
        ):
            self.fails("InvalidText", (0, field), read_history, text)

    def test_near_lines(self):
        for history in ((), (0,), (0, 1), (0, 0, 2, 3), samples.LINE, samples.FORK, tuple(range(12))):
            for text in near(history_line(history)):
                self.looked_at(text)

    def test_forty(self):
        line = history_line(tuple(range(40)))
        for text in (line, line + " 40", line + " 41", line + " ", line + " 39", line[:-1], line + "\n", line + "0"):
            self.looked_at(text)

    def test_strings(self):
        for text in samples.STRINGS:
            self.looked_at(text)

    def test_no_texts(self):
        for bad in samples.ODD + samples.INTEGERS + samples.NO_TEXTS:
            self.refuses("text", read_history, bad)
            self.refuses("text", read_kind, bad)


class Kinds(Case):
    def looked_at(self, text):
        field = kind_field(text)
        if field is None:
            self.gives(KIND_LINES[text], read_kind, text)
        else:
            self.fails("InvalidText", (0, field), read_kind, text)

    def test_lines(self):
        for line, kind in KIND_LINES.items():
            self.gives(line, kind_line, kind)
            self.gives(kind, read_kind, line)

    def test_fields(self):
        for text, field in (
            ("", 0), (" ", 0), ("kind\n", 0), (" kind sum", 0), ("Kind sum", 0), ("kinds sum", 0), ("sum", 0),
            ("\nkind sum", 0), ("history 0", 0), ("kindsum", 0),
            ("kind", 1), ("kind ", 1), ("kind  ", 1), ("kind  sum", 1), ("kind none", 1), ("kind Sum", 1),
            ("kind sum\n", 1), ("kind 7", 1), ("kind kind", 1), ("kind none 7 8", 1), ("kind affine\n 7", 1),
            ("kind sum ", 2), ("kind sum  ", 2), ("kind sum 7", 2), ("kind text =", 2), ("kind sum sum sum", 2),
            ("kind affine", 2), ("kind square", 2), ("kind turn", 2), ("kind affine ", 2), ("kind affine  7", 2),
            ("kind affine 1", 2), ("kind affine 0", 2), ("kind affine 1000", 2), ("kind affine -7", 2),
            ("kind affine 07", 2), ("kind affine +7", 2), ("kind affine 7\n", 2), ("kind affine x", 2),
            ("kind square 1", 2), ("kind square 1000 7", 2), ("kind turn 0", 2), ("kind turn 10", 2),
            ("kind turn 10 1", 2), ("kind turn \n", 2), ("kind affine 7.0", 2), ("kind affine 1_0", 2),
            ("kind affine 7 ", 3), ("kind affine 7 7", 3), ("kind affine 999 x y", 3), ("kind turn 9  ", 3),
            ("kind square 2 \n", 3), ("kind turn 1 1", 3),
        ):
            self.fails("InvalidText", (0, field), read_kind, text)

    def test_near_lines(self):
        for kind in samples.KINDS:
            for text in near(kind_line(kind)):
                self.looked_at(text)

    def test_strings(self):
        for text in samples.STRINGS:
            self.looked_at(text)

    def test_no_kinds(self):
        for bad in samples.NO_KINDS:
            self.refuses("kind", kind_line, bad)
