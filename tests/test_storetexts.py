"""[32] Stores and bases as lines."""
import re

from sincemarks.storetexts import bases_line, read_bases, read_store, store_lines
from tests import plain, plain_stores, samples, store_samples
from tests.cases import Case

MORE = ("", "0", "1", "2", "3", "9", "-1", "00", "01", "+1", "x", "1,2", "1\n", "\n", "store", "sheet", "read", "bases",
        "1.0", "1_0", "10", "True")


def number_in(word):
    return int(word) if re.fullmatch("0|[1-9][0-9]*", word) else None


def set_field(words, name, first, end):
    """The field at which words are no line of a name and a set of numbers, None if they are one."""
    if words[0] != name:
        return 0
    least = first
    for k, word in enumerate(words[1:], start=1):
        number = number_in(word)
        if number is None or number < least or number >= end:
            return k
        least = number + 1
    return None


def place_of(history, lines):
    """The line and the field at which lines are no store, None if they are one."""
    many = 0
    for at, text in enumerate(lines):
        words = text.split(" ")
        if at == 0:
            field = 0 if words[0] != "store" else None
            if field is None and (len(words) == 1 or number_in(words[1]) is None):
                field = 1
            elif field is None and len(words) > 2:
                field = 2
            many = number_in(words[1]) if field is None else 0
        elif at <= many:
            field = set_field(words, "sheet", 1, len(history) + 1)
            if len(history) == 0:
                field = 0
            elif words == ["sheet"]:
                field = 1
        elif at <= many + len(history) + 1:
            field = set_field(words, "read", 0, many)
        else:
            field = 0
        if field is not None:
            return (at, field)
    return None if lines and len(lines) == many + len(history) + 2 else (len(lines), 0)


def store_in(history, lines):
    told = [tuple(int(word) for word in text.split(" ")[1:]) for text in lines]
    many = told[0][0]
    return tuple(told[1:many + 1]), tuple(told[many + 1:])


def near_texts(text):
    """The line with words more, less, changed, doubled, and with signs put in or taken out."""
    words = text.split(" ")
    for k in range(len(words) + 1):
        yield " ".join(words[:k])
        yield " ".join(words[:k] + words[k + 1:])
        yield " ".join(words[:k] + words[k:k + 1] + words[k:])
        for word in MORE:
            yield " ".join(words[:k] + [word] + words[k:])
            yield " ".join(words[:k] + [word] + words[k + 1:])
    yield " ".join(reversed(words))
    for k in range(len(text) + 1):
        for sign in " 0\ns-":
            yield text[:k] + sign + text[k:]


class Stores(Case):
    def looked_at(self, history, lines):
        place = place_of(history, lines)
        if place is None:
            store = store_in(history, lines)
            self.gives(store, read_store, history, lines)
            self.gives(lines, store_lines, history, store)
        else:
            self.fails("InvalidText", place, read_store, history, lines)
        return place

    def test_by_hand(self):
        store = (((1,), (2,), (1, 2), (2,)), ((), (0,), (0, 1, 2)))
        lines = ("store 4", "sheet 1", "sheet 2", "sheet 1 2", "sheet 2", "read", "read 0", "read 0 1 2")
        self.gives(lines, store_lines, (0, 1), store)
        self.gives(store, read_store, (0, 1), lines)
        self.gives(("store 0", "read"), store_lines, (), ((), ((),)))
        self.gives(((), ((),)), read_store, (), ("store 0", "read"))
        self.gives(("store 0", "read", "read"), store_lines, (0,), ((), ((), ())))

    def test_stores(self):
        for history in samples.SMALL[::3] + samples.LARGE[:3] + samples.LARGE[12:14]:
            for store in store_samples.right_stores(history, 2):
                lines = self.answer(store_lines, history, store)
                self.assertIsNone(self.looked_at(history, lines))
                self.same(read_store(history, lines), store)
            for store in list(store_samples.faulty_stores(history, 1))[:6]:
                self.assertIsNone(self.looked_at(history, store_lines(history, store)))

    def test_places(self):
        for history, lines, place in (
            ((0,), ("store 1", "sheet 1", "read", "read 1"), (3, 1)),
            ((0,), (), (0, 0)), ((), (), (0, 0)), ((0,), ("",), (0, 0)), ((0,), ("store",), (0, 1)),
            ((0,), ("store ",), (0, 1)), ((0,), ("store x", "y"), (0, 1)), ((0,), ("store -1",), (0, 1)),
            ((0,), ("store 01",), (0, 1)), ((0,), ("store  1",), (0, 1)), ((0,), ("store 1 ",), (0, 2)),
            ((0,), ("store 1 1",), (0, 2)), ((0,), ("store 1\n",), (0, 1)), ((0,), ("store\n1",), (0, 0)),
            ((0,), ("store x 1",), (0, 1)), ((0,), (" store 1",), (0, 0)), ((0,), ("stores 1",), (0, 0)),
            ((0,), ("store 1",), (1, 0)), ((0,), ("store 1", "sheet"), (1, 1)), ((0,), ("store 1", "sheet "), (1, 1)),
            ((0,), ("store 1", "sheet 0"), (1, 1)), ((0,), ("store 1", "sheet 2"), (1, 1)),
            ((0,), ("store 1", "sheet 1 1"), (1, 2)), ((0, 1), ("store 1", "sheet 2 1"), (1, 2)),
            ((0, 1), ("store 1", "sheet 1 2 3"), (1, 3)), ((0,), ("store 1", "read"), (1, 0)),
            ((0,), ("store 1", "sheet 1"), (2, 0)), ((0,), ("store 1", "sheet 1", "sheet 1"), (2, 0)),
            ((0,), ("store 1", "sheet 1", "read 0 0"), (2, 2)), ((0,), ("store 1", "sheet 1", "read "), (2, 1)),
            ((0,), ("store 1", "sheet 1", "read"), (3, 0)), ((0,), ("store 1", "sheet 1", "read", "read", ""), (4, 0)),
            ((0,), ("store 1", "sheet 1", "read", "read", "read"), (4, 0)),
            ((0,), ("store 1", "sheet 1", "read", "read 1", "read"), (3, 1)),
            ((0,), ("store 2", "sheet 1", "read", "read"), (2, 0)),
            ((0,), ("store 0", "sheet 1", "read", "read"), (1, 0)),
            ((0,), ("store 0", "read 0", "read"), (1, 1)),
            ((0,), ("store 2", "sheet 1", "sheet 1", "read 1 0", "read"), (3, 2)),
            ((0,), ("store 2", "sheet 1", "sheet 1", "read 0  1", "read"), (3, 2)),
            ((0,), ("store 2", "sheet 1", "sheet 1", "read 0 1 ", "read"), (3, 3)),
        ):
            self.fails("InvalidText", place, read_store, history, lines)
            self.same(place_of(history, lines), place)

    def test_no_changes(self):
        # Any number may stand in the first line, but no sheet line may follow.
        for lines, place in (
            (("store 5",), (1, 0)), (("store 1", "sheet"), (1, 0)), (("store 1", "sheet 1", "read"), (1, 0)),
            (("store 1", "read"), (1, 0)), (("store 1", ""), (1, 0)), (("store 0",), (1, 0)),
            (("store 0", "read", "read"), (2, 0)), (("store 0", "read 0"), (1, 1)), (("store 0", "sheet"), (1, 0)),
            (("store 9", "sheet 0", "read"), (1, 0)),
        ):
            self.fails("InvalidText", place, read_store, (), lines)

    def test_the_first_line_may_have_any_number(self):
        for number in ("5", "80", "81", "1000", "9" * 30, "1" + "0" * 1000):
            self.fails("InvalidText", (1, 0), read_store, (0,), (f"store {number}",))
            self.fails("InvalidText", (2, 0), read_store, (0,), (f"store {number}", "sheet 1"))
            self.fails("InvalidText", (3, 0), read_store, (0,), (f"store {number}", "sheet 1", "sheet 1"))
            self.fails("InvalidText", (2, 1), read_store, (0,), (f"store {number}", "sheet 1", "sheet 2"))
            self.fails("InvalidText", (2, 0), read_store, (0,), (f"store {number}", "sheet 1", "read", "read"))

    def test_near_lines(self):
        for history, store in (
            ((0,), (((1,),), ((), (0,)))),
            ((0, 1), (((1,), (1, 2), (2,)), ((), (0,), (0, 2)))),
            ((0, 0, 1), (((1, 2, 3), (2,)), ((0,), (0, 1), (1,), ()))),
            ((), ((), ((),))),
        ):
            lines = store_lines(history, store)
            for k, line in enumerate(lines):
                for text in near_texts(line):
                    self.looked_at(history, lines[:k] + (text,) + lines[k + 1:])

    def test_lines_more_and_less(self):
        for history in ((), (0,), (0, 1), samples.WIDE):
            for store in list(store_samples.right_stores(history, 1)):
                lines = store_lines(history, store)
                for k in range(len(lines) + 1):
                    self.looked_at(history, lines[:k])
                    self.looked_at(history, lines[:k] + lines[k + 1:])
                    self.looked_at(history, lines[:k] + lines[k:k + 1] + lines[k:])
                    for text in ("read", "sheet 1", "", "read 0", "store 1"):
                        self.looked_at(history, lines[:k] + (text,) + lines[k:])
                        self.looked_at(history, lines[:k] + (text,) + lines[k + 1:])

    def test_many_at_once(self):
        history = samples.WIDE
        for store in store_samples.right_stores(history, 2):
            source = samples.chance("many", store)
            lines = store_lines(history, store)
            for _ in range(10):
                bent = list(lines)
                for _ in range(3):
                    k = source.randrange(len(bent))
                    bent[k] = source.choice(list(near_texts(bent[k])))
                self.looked_at(history, tuple(bent))

    def test_refusals(self):
        for history in ((0, 1), samples.WIDE, ()):
            for bad in (
                None, True, 0, "", "store 0", ["store 0", "read"], [], (None,), ("store 0", None), (b"store 0",),
                (("store 0",),), (0,), ("store x", 5), ("store 0", "read", True), ((),), ("store 0", ["read"]),
            ):
                self.refuses("lines", read_store, history, bad)
        for history in ((0, 1), samples.WIDE):
            for bad in store_samples.no_stores(history):
                self.refuses("store", store_lines, history, bad)

    def test_limits(self):
        line = tuple(range(24))
        sheets = tuple(tuple(range(1 + k % 24, 25)) for k in range(80))
        store = (sheets, ((),) + (tuple(range(80)),) * 24)
        self.assertIsNone(self.looked_at(line, store_lines(line, store)))


class Bases(Case):
    def looked_at(self, history, text):
        words = text.split(" ")
        field = None if words[0] == "bases" else 0
        for k, word in enumerate(words[1:], start=1):
            if field is None and (k > len(history) or number_in(word) not in plain.elders(history, k)):
                field = k
        if field is None and len(words) <= len(history):
            field = len(words)
        if field is None:
            bases = tuple(int(word) for word in words[1:])
            self.gives(bases, read_bases, history, text)
            self.gives(text, bases_line, history, bases)
        else:
            self.fails("InvalidText", (0, field), read_bases, history, text)
        return field

    def test_by_hand(self):
        self.gives("bases", bases_line, (), ())
        self.gives("bases 0 1 0 3 3", bases_line, samples.LINE, (0, 1, 0, 3, 3))
        self.gives((0, 1, 0, 3, 3), read_bases, samples.LINE, "bases 0 1 0 3 3")
        self.gives((0, 1, 1), read_bases, (0, 1, 1), "bases 0 1 1")
        for text, field in (
            ("", 0), ("base 0", 0), ("bases", 1), ("bases ", 1), ("bases 1", 1), ("bases 0", 2), ("bases 0 2", 2),
            ("bases 0 1", 3), ("bases 0 1 2", 3), ("bases 0 1 1 ", 4), ("bases 0 1 1 0", 4), ("bases 0  1 1", 2),
            ("bases 0 1 1\n", 3), ("bases\n0 1 1", 0), ("bases 00 1 1", 1), ("bases 0 -0 1", 2), ("bases 0 1 3", 3),
            (" bases 0 1 1", 0), ("bases 0 1 x 5", 3),
        ):
            self.fails("InvalidText", (0, field), read_bases, (0, 1, 1), text)

    def test_bases(self):
        for history in samples.SMALL[::2]:
            for bases in plain_stores.all_bases(history):
                self.assertIsNone(self.looked_at(history, self.answer(bases_line, history, bases)))
        for history in samples.LARGE:
            for bases in store_samples.some_bases(history, 2):
                self.assertIsNone(self.looked_at(history, bases_line(history, bases)))

    def test_near_lines(self):
        for history in ((), (0,), (0, 0), (0, 1), (0, 1, 1, 3), samples.LINE):
            for bases in list(store_samples.some_bases(history, 1))[:3]:
                for text in near_texts(bases_line(history, bases)):
                    self.looked_at(history, text)

    def test_strings(self):
        for text in samples.STRINGS:
            self.looked_at((0, 1), text)
            self.looked_at((), text)

    def test_refusals(self):
        for bad in samples.NO_TEXTS:
            self.refuses("text", read_bases, (0, 1), bad)
            self.refuses("text", read_bases, (), bad)
        for history in ((0,), samples.WIDE):
            for bad in store_samples.no_bases(history):
                self.refuses("bases", bases_line, history, bad)
