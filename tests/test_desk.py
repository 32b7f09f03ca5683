"""A desk at which a live book is kept by rows of words."""
from sincemarks import errors
from sincemarks.changetexts import change_word
from sincemarks.desk import Desk
from sincemarks.errors import InvalidRow, MarkError
from tests import live_samples, plain, plain_live, plain_stores, samples
from tests.cases import Case
from tests.test_eventtexts import line_of

SUM, TEXT, SET = ("sum",), ("text",), ("set",)
# Rows that change no book, with what stands behind them.
ASKED = ("history", "bounds", "bases", "heights", "changes", "wrote", "many", "tally", "log")
ROWS = ASKED + ("undo", "thin", "bars drop 1", "tries drop 1", "state 0", "chain 0", "commit 0 5", "drop 1", "usual 1 1")


def spaced(words, between=" "):
    return between.join(str(word) for word in words) or "-"


class DeskCase(Case):
    def says(self, desk, row, want):
        """The desk answers so, and counts it."""
        returned, raised = desk.counts()
        self.same(desk.say(row), want, row)
        self.same(desk.counts(), (returned + 1, raised))

    def raises(self, desk, said, name, **fields):
        """The desk raises so, and counts it; its book stays."""
        before = self.told(desk)
        returned, raised = desk.counts()
        with self.assertRaises(getattr(errors, name), msg=said) as caught:
            desk.say(said)
        self.assertIs(type(caught.exception), getattr(errors, name))
        self.same(vars(caught.exception), fields, said)
        self.same(desk.counts(), (returned, raised + 1))
        self.same(self.told(desk), before, said)

    def told(self, desk):
        """All that the desk tells of its book but the tally; None without a book. This counts, too."""
        try:
            return [desk.say(row) for row in ASKED if row != "tally"]
        except InvalidRow:
            return None

    def refuses_row(self, desk, row):
        self.raises(desk, row, "InvalidRow", row=row)

    def begun(self, *rows):
        desk = Desk()
        for row in rows:
            desk.say(row)
        return desk

    def looked_at(self, desk, want, events, tally):
        """What the desk tells is what is told of the plain book."""
        history, changes, (roof, pairs), _ = want.told()
        bases = want.bases_now()
        self.says(desk, "history", " ".join(["history", *map(str, history)]))
        self.says(desk, "bounds", " ".join(["bounds", str(roof), *[f"{width}:{reach}" for width, reach in pairs]]))
        self.says(desk, "bases", " ".join(["bases", *map(str, bases)]))
        self.says(desk, "heights", " ".join(["heights", *[str(row[-1]) for row in want.rows()]]))
        self.says(desk, "changes", spaced([change_word(want.kind, change) for change in changes]))
        self.says(desk, "wrote", spaced(want.wrote))
        self.says(desk, "many", str(len(events)))
        self.says(desk, "tally", spaced(tally))
        self.says(desk, "log", spaced([line_of(want.kind, event) for event in events], " / "))
        for version in {0, len(history), len(history) // 2}:
            state = plain.state(want.kind, history, changes, version)
            self.says(desk, f"state {version}", change_word(want.kind, state))
            self.says(desk, f"chain {version}", spaced(plain_stores.chain(bases, version)))


class Desks(DeskCase):
    def test_by_hand(self):
        desk = Desk()
        self.same([desk.say("begin sum 2 2 2"), desk.say("commit 0 5"), desk.say("commit 1 7"), desk.say("bases"), desk.say("bars drop 3")],
                  ["ok", "1", "2", "bases 0 0", "form"])
        self.same([desk.say("state 2"), desk.say("thin 2"), desk.say("log"), desk.say("undo"), desk.counts()],
                  ["12", "1", "commit 0 5 / commit 1 7 / drop 1", "drop 1", (9, 0)])
        with self.assertRaises(InvalidRow) as caught:
            desk.say("thin 2 1")
        self.same([caught.exception.row, desk.counts()], ["thin 2 1", (9, 1)])

    def test_follows_a_book(self):
        for k, kind in enumerate(samples.NINE):
            level = live_samples.LEVELS[k % len(live_samples.LEVELS)]
            source = samples.chance("desk", kind)
            desk = Desk()
            self.says(desk, " ".join(["begin", *map(str, kind), *map(str, level)]), "ok")
            stands, events, tally = [plain_live.Book(kind, *level)], [], [0, 0, 0]
            for step in range(22):
                event = live_samples.some_event(kind, len(stands[-1].names), level[0], source, 0.4)
                row, reason = line_of(kind, event), stands[-1].reason(len(events), event)
                self.says(desk, "bars " + row, reason or "-")
                then = stands[-1].copy()
                if reason is None:
                    then.do(event)
                    self.says(desk, "tries " + row, " ".join(["history", *map(str, then.history())]))
                    events.append(event)
                    stands.append(then)
                    tally[0] += 1
                    self.says(desk, row, str(len(events)))
                else:
                    self.raises(desk, "tries " + row, "InvalidEvent", event=event, reason=reason)
                    self.raises(desk, row, "InvalidEvent", event=event, reason=reason)
                    tally[2] += 1
                if step % 7 == 6 and events:
                    self.says(desk, "undo", line_of(kind, events.pop()))
                    stands.pop()
                    tally[1] += 1
                if step % 4 == 3:
                    self.looked_at(desk, stands[-1], events, tally)

    def test_a_new_desk(self):
        desk = Desk()
        self.same(desk.counts(), (0, 0))
        rows = ROWS + ("", " ", "x", "begin", "counts", "state", "chain")
        for many, row in enumerate(rows):
            self.same(desk.counts(), (0, many))
            with self.assertRaises(InvalidRow) as caught:
                desk.say(row)
            self.same(caught.exception.row, row)
        for row in rows:
            self.refuses_row(desk, row)

    def test_what_is_no_string(self):
        for desk in (Desk(), self.begun("begin sum 2 2 2", "commit 0 5")):
            for thing in (None, True, 0, 5, (), ("history",), ["history"], [], {}, b"history", object()):
                returned, raised = desk.counts()
                with self.assertRaises(InvalidRow) as caught:
                    desk.say(thing)
                self.assertIs(caught.exception.row, thing)
                self.same(desk.counts(), (returned, raised + 1))

    def test_by_name(self):
        desk = Desk()
        self.same(desk.say(row="begin sum 2 2 2"), "ok")
        for call in (lambda: desk.say(), lambda: desk.say("a", "b"), lambda: desk.counts(1), lambda: Desk(1)):
            with self.assertRaises(TypeError):
                call()

    def test_apart_from_each_other(self):
        one, other = self.begun("begin sum 2 2 2"), Desk()
        self.refuses_row(other, "many")
        self.says(one, "many", "0")


class Begin(DeskCase):
    def test_each_kind(self):
        for kind in samples.KINDS:
            for level in live_samples.LEVELS:
                desk = Desk()
                self.says(desk, " ".join(["begin", *map(str, kind), *map(str, level)]), "ok")
                self.looked_at(desk, plain_live.Book(kind, *level), (), (0, 0, 0))

    def test_a_new_book_takes_the_place(self):
        desk = self.begun("begin sum 2 2 2", "commit 0 5")
        self.says(desk, "begin text 3 1 3", "ok")
        self.looked_at(desk, plain_live.Book(TEXT, 3, 1, 3), (), (0, 0, 0))
        self.says(desk, "commit 0 =a", "1")
        self.refuses_row(desk, "commit 0 5")

    def test_usual_bounds_that_cannot_be(self):
        for desk in (Desk(), self.begun("begin sum 2 2 2", "commit 0 5")):
            for row, word in (
                ("begin sum 0 2 2", "roof"), ("begin sum 1000 2 2", "roof"), ("begin sum 2 0 2", "width"), ("begin sum 2 1000 2", "width"),
                ("begin sum 2 2 0", "reach"), ("begin sum 2 2 3", "reach"), ("begin sum 0 0 0", "roof"), ("begin sum 5 0 9", "width"),
                ("begin turn 3 1 1 2", "reach"), ("begin sum " + "9" * 30 + " 1 1", "roof"), ("begin affine 7 0 1 1", "roof"),
            ):
                self.raises(desk, row, "NotUsable", word=word, at=-1)

    def test_what_is_none(self):
        for desk in (Desk(), self.begun("begin sum 2 2 2", "commit 0 5")):
            for row in (
                "begin", "begin ", "begin sum", "begin sum 2", "begin sum 2 2", "begin sum 2 2 2 2", "begin  sum 2 2 2", "begin sum  2 2 2",
                "begin sum 2  2 2", "begin sum 2 2 2 ", " begin sum 2 2 2", "begin sum 02 2 2", "begin sum 2 +2 2", "begin sum 2 2 -2",
                "begin sum -1 2 2", "begin sum 2 2 x", "begin sum x 2 2", "begin kind sum 2 2 2", "begin x 2 2 2", "begin 2 2 2",
                "begin turn 2 2 2", "begin turn 0 2 2 2", "begin turn 10 2 2 2", "begin turn 03 2 2 2", "begin affine 1 2 2 2",
                "begin affine 2 2 2", "begin affine 7 7 2 2 2", "begin affine 1000 2 2 2", "begin sum sum 2 2 2", "begin sum 2 2 2\n",
                "begin sum\n2 2 2", "Begin sum 2 2 2", "begin sum 2 2 2.0", "begin sum 2 2 -0", "begin SUM 2 2 2", "begin sum 2 2 True",
                "beginsum 2 2 2", "begin turn x 2 2 2", "begin text 2 2 =a", "begin square 7 2 2",
            ):
                self.refuses_row(desk, row)


class Rows(DeskCase):
    def fork(self):
        return self.begun("begin sum 5 2 4", "commit 0 5", "commit 1 7", "commit 1 -2", "mend 1 6")

    def test_told(self):
        desk = self.fork()
        for row, want in (
            ("history", "history 0 1 1"), ("bounds", "bounds 5 2:4 2:4 2:4"), ("many", "4"), ("tally", "4 0 0"), ("changes", "6 7 -2"),
            ("state 0", "0"), ("state 1", "6"), ("state 3", "4"), ("chain 0", "-"), ("chain 1", "1"),
            ("log", "commit 0 5 / commit 1 7 / commit 1 -2 / mend 1 6"), ("bars commit 0 1", "-"), ("bars usual 1 6", "roof"),
            ("bars commit 4 1", "form"), ("bars drop 4", "form"), ("tries commit 3 1", "history 0 1 1 3"), ("tries usual 1 1", "history 0 1 1"),
            ("tries drop 1", "history 0 0"), ("tries graft 2 2 0 1 5 6", "history 0 1 1 2 4"),
        ):
            self.says(desk, row, want)
        self.same(desk.counts(), (5 + 19, 0))

    def test_nothing_told(self):
        desk = self.begun("begin sum 2 2 2")
        for row, want in (
            ("history", "history"), ("bounds", "bounds 2"), ("bases", "bases"), ("heights", "heights"), ("changes", "-"), ("wrote", "-"),
            ("many", "0"), ("tally", "0 0 0"), ("log", "-"), ("state 0", "0"), ("chain 0", "-"), ("bars commit 0 5", "-"), ("thin", "0"),
        ):
            self.says(desk, row, want)
        self.says(desk, "usual 1 1", "1")
        self.says(desk, "wrote", "-")
        self.says(desk, "tries usual 1 1", "history")

    def test_blank_changes(self):
        desk = self.begun("begin set 3 3 3", "commit 0 -", "commit 1 1,2", "commit 2 -")
        self.says(desk, "changes", "- 1,2 -")
        self.says(desk, "state 1", "-")
        desk = self.begun("begin text 3 3 3", "commit 0 =", "commit 1 =ab")
        self.says(desk, "changes", "= =ab")
        self.says(desk, "state 2", "=ab")
        self.says(desk, "log", "commit 0 = / commit 1 =ab")

    def test_other_rows(self):
        for desk in (self.fork(), self.begun("begin sum 2 2 2")):
            for row in ("", " ", "\n", "x", "sum", "kind sum", "0", "counts", "say", "History", "history 0 1 1", "bounds 5 2:4", "heights 1"):
                self.refuses_row(desk, row)
            for row in ASKED + ("undo",):
                for bent in (row + " ", " " + row, row + " x", row + " 1", row + "\n", row.upper(), row[:-1], row + "  ", row + " " + row):
                    if bent != "bound":
                        self.refuses_row(desk, bent)

    def test_versions(self):
        desk = self.fork()
        for word in ("state", "chain"):
            for row in (
                word, word + " ", word + "  1", word + " 1 ", word + " 1 2", word + " 4", word + " 5", word + " -1", word + " +1", word + " 01",
                word + " x", word + " 1\n", word + " " + "9" * 40, word + " -0", word + " 00", word + "1", word + " True",
            ):
                self.refuses_row(desk, row)
            for version in range(4):
                desk.say(f"{word} {version}")

    def test_events(self):
        desk = self.fork()
        for row in (
            "commit", "commit 0", "commit 0 ", "commit 0 x", "commit 0 5 6", "commit  0 5", "commit 00 5", "commit +0 5", "commit -1 5",
            "commit 0 5\n", "commit 0 05", "mend 0 5", "drop 0", "drop", "drop 1 2", "usual 0 1", "usual 1 1000", "usual 1", "bound 1 1",
            "graft 0 0", "graft 0 1 0", "graft 0 1 1 5", "graft 0 1 0 5 6", "take 0", "pledge 0 5 1", "pledge 0 5 1 1 1", "Commit 0 5",
            "bound 0 1 1", "commit 0 =a", "commit 0 1,2",
        ):
            self.refuses_row(desk, row)
            self.refuses_row(desk, "bars " + row)
            self.refuses_row(desk, "tries " + row)
        for row in ("bars", "bars ", "tries", "tries ", "bars undo", "bars bars drop 1", "tries begin sum 2 2 2", "tries history", "bars thin",
                    "bars  drop 1", "tries drop 1 "):
            self.refuses_row(desk, row)

    def test_what_the_book_raises(self):
        desk = self.fork()
        self.raises(desk, "drop 4", "InvalidEvent", event=("drop", 4), reason="form")
        self.raises(desk, "usual 1 6", "InvalidEvent", event=("usual", 1, 6), reason="roof")
        self.raises(desk, "graft 0 " + " ".join(["30"] + ["0"] * 60), "InvalidEvent", event=("graft", 0, (0,) * 30, (0,) * 30), reason="size")
        self.says(desk, "tally", "4 0 3")
        self.raises(desk, "tries drop 4", "InvalidEvent", event=("drop", 4), reason="form")
        self.says(desk, "bars drop 4", "form")
        self.says(desk, "tally", "4 0 3")

    def test_the_longest(self):
        desk = self.begun("begin sum 2 2 2", *["usual 1 1", "usual 2 2"] * 20)
        self.raises(desk, "usual 1 1", "InvalidEvent", event=("usual", 1, 1), reason="many")
        self.says(desk, "bars usual 1 1", "many")
        self.says(desk, "many", "40")

    def test_graft(self):
        desk = self.begun("begin text 3 3 3")
        self.says(desk, "graft 0 3 0 1 1 =a =b =", "1")
        self.says(desk, "history", "history 0 1 1")
        self.says(desk, "log", "graft 0 3 0 1 1 =a =b =")
        self.says(desk, "undo", "graft 0 3 0 1 1 =a =b =")


class Undo(DeskCase):
    def test_undo(self):
        rows = ("commit 0 5", "usual 5 5", "pledge 1 7 2 3", "take 2 0", "mend 1 6", "bound 2 3 4", "graft 1 2 0 1 3 4", "drop 2")
        desk = self.begun("begin sum 9 9 9", *rows)
        for left in range(len(rows) - 1, -1, -1):
            self.says(desk, "undo", rows[left])
            self.says(desk, "many", str(left))
            other = self.begun("begin sum 9 9 9", *rows[:left])
            self.same(self.told(desk), self.told(other))
        self.raises(desk, "undo", "NothingToUndo", steps=1)
        self.says(desk, "tally", "8 8 0")


class Thin(DeskCase):
    def fork(self):
        return self.begun("begin sum 9 9 9", *[f"commit {parent} {2 ** k}" for k, parent in enumerate((0, 1, 2, 1, 4, 5, 6))])

    def test_each_set(self):
        for versions in samples.subsets((0, 1, 2, 3), 9) + ((1, 7), (2, 5), (7,), (1, 2, 3, 4, 5, 6, 7), (3, 4, 6)):
            desk = self.fork()
            others = [v for v in range(7, 0, -1) if v not in versions]
            self.says(desk, spaced(["thin", *versions]), str(len(others)))
            left = plain.left_on(samples.FORK, versions)
            self.says(desk, "history", " ".join(["history", *map(str, left)]))
            drops = [f"drop {v}" for v in others]
            self.says(desk, "log", spaced([f"commit {p} {2 ** k}" for k, p in enumerate(samples.FORK)] + drops, " / "))
            changes = [plain.way(SUM, samples.FORK, tuple(2 ** k for k in range(7)), plain.left_parent(samples.FORK, versions, v), v)
                       for v in versions]
            self.says(desk, "changes", spaced(changes))
            self.says(desk, "tally", f"{7 + len(others)} 0 0")
            self.same(desk.counts(), (8 + 1 + 4, 0))

    def test_what_is_none(self):
        desk = self.fork()
        for row in (
            "thin 2 1", "thin 1 1", "thin 0", "thin 0 1", "thin 8", "thin 1 8", "thin -1", "thin x", "thin 1  2", "thin ", "thin 1 ", "thin 01",
            "thin +1", "thin 1 2 2", "thin 1,2", "thin 1\n", "thin (1,)", " thin", "Thin 1", "thin " + "9" * 30, "thins", "thin1",
        ):
            self.refuses_row(desk, row)
        self.says(desk, "tally", "7 0 0")

    def test_too_many_drops(self):
        desk = self.begun("begin sum 9 30 9", *["commit 0 1"] * 20, *["usual 9 9"] * 15)
        row = "thin 1 2 3 4 5 6 7 8 9 10"
        self.raises(desk, row, "InvalidEvent", event=("drop", 15), reason="many")
        self.says(desk, "tally", "40 5 1")
        self.says(desk, "many", "35")
        self.says(desk, "thin " + " ".join(str(v) for v in range(1, 16)), "5")
        self.says(desk, "many", "40")
        self.raises(desk, "thin", "InvalidEvent", event=("drop", 15), reason="many")
        self.says(desk, "thin " + " ".join(str(v) for v in range(1, 16)), "0")

    def test_all_errors_are_of_the_package(self):
        desk = self.fork()
        for row in ("thin 9", "undo 1", "drop 9", "begin sum 0 0 0", "", None):
            with self.assertRaises(MarkError):
                desk.say(row)
        self.same(desk.counts(), (8, 6))
