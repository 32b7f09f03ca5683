"""[41] Bounds and heights as lines."""
import re

from sincemarks.boundtexts import bounds_line, heights_line, read_bounds, read_heights
from tests import bound_samples, plain_bounds, samples, store_samples
from tests.cases import Case
from tests.samples import GREAT
from tests.test_heights import some_heights
from tests.test_storetexts import near_texts

NATURAL = "[1-9][0-9]*"
SHORT, TIGHT = (0, 1), (2, ((1, 2), (1, 1)))
WORDS = (
    "bounds", "heights", "1:1", "2:2", "1:2", "2:1", "1:", ":1", ":", "1", "0:1", "1:0", "01:1", "1:01", "+1:1", "1:+1",
    "-1:1", "1:-1", "1:1:1", "1::1", "1:1:", "999:1", "1000:1", "1:999", "1:1000", "1:1\n", "1\n:1", "\n", "1;1", "x:1",
    "1:x", "1.0:1", "1_0:1", " ", "0", "999", "1000", "True:1", "a", "9" * 30,
)


def natural_in(word, most):
    return re.fullmatch(NATURAL, word) is not None and int(word) <= most


def is_pair_word(word, roof):
    parts = word.split(":")
    return len(parts) == 2 and natural_in(parts[0], 999) and natural_in(parts[1], roof)


def bounds_field(history, text):
    """The field at which a text is no bounds line of the history, None if it is one."""
    words = text.split(" ")
    if words[0] != "bounds":
        return 0
    if len(words) == 1 or not natural_in(words[1], 999):
        return 1
    for k, word in enumerate(words[2:], start=2):
        if k >= len(history) + 2 or not is_pair_word(word, int(words[1])):
            return k
    return None if len(words) == len(history) + 2 else len(words)


def heights_field(history, text):
    words = text.split(" ")
    if words[0] != "heights":
        return 0
    for k, word in enumerate(words[1:], start=1):
        if k > len(history) or not re.fullmatch(NATURAL, word):
            return k
    return None if len(words) == len(history) + 1 else len(words)


def with_words(text):
    """The line with one word changed, put in, left out, doubled, and with spaces side by side."""
    words = text.split(" ")
    for k in range(len(words) + 1):
        yield " ".join(words[:k])
        yield " ".join(words[:k] + words[k + 1:])
        yield " ".join(words[:k] + words[k:k + 1] + words[k:])
        for word in ("", *WORDS):
            yield " ".join(words[:k] + [word] + words[k:])
            yield " ".join(words[:k] + [word] + words[k + 1:])


class Bounds(Case):
    def looked_at(self, history, text):
        field = bounds_field(history, text)
        if field is None:
            words = text.split(" ")
            bounds = int(words[1]), tuple(tuple(int(part) for part in word.split(":")) for word in words[2:])
            self.gives(bounds, read_bounds, history, text)
            self.gives(text, bounds_line, history, bounds)
        else:
            self.fails("InvalidText", (0, field), read_bounds, history, text)
        return field

    def test_by_hand(self):
        self.gives("bounds 2 1:2 1:1", bounds_line, SHORT, TIGHT)
        self.gives("bounds 7", bounds_line, (), (7, ()))
        self.gives("bounds 999 999:999", bounds_line, (0,), (999, ((999, 999),)))
        self.gives(TIGHT, read_bounds, SHORT, "bounds 2 1:2 1:1")
        self.gives((7, ()), read_bounds, (), "bounds 7")
        self.gives((999, ((999, 999),)), read_bounds, (0,), "bounds 999 999:999")

    def test_fields(self):
        for text, field in (
            ("", 0), (" ", 0), ("bound 2", 0), ("bounds\n 2 1:2 1:1", 0), (" bounds 2 1:2 1:1", 0), ("Bounds 2", 0),
            ("bounds2 1:1", 0), ("heights 1 1", 0), ("2 1:2 1:1", 0),
            ("bounds", 1), ("bounds ", 1), ("bounds 0 1:1 1:1", 1), ("bounds 1000 1:1 1:1", 1), ("bounds -1", 1),
            ("bounds 02 1:2 1:1", 1), ("bounds +2 1:2 1:1", 1), ("bounds 2\n 1:2 1:1", 1), ("bounds  2 1:2 1:1", 1),
            ("bounds 1:2 1:1", 1), ("bounds x", 1), ("bounds 0 x", 1),
            ("bounds 2", 2), ("bounds 2 ", 2), ("bounds 2 1:3 1:1", 2), ("bounds 2 0:1 1:1", 2), ("bounds 2 1:0 1:1", 2),
            ("bounds 2 1000:1 1:1", 2), ("bounds 2 1 1:1", 2), ("bounds 2 :1 1:1", 2), ("bounds 2 1: 1:1", 2),
            ("bounds 2 : 1:1", 2), ("bounds 2 +1:1 1:1", 2), ("bounds 2 1:+1 1:1", 2), ("bounds 2 -1:1 1:1", 2),
            ("bounds 2 01:1 1:1", 2), ("bounds 2 1:01 1:1", 2), ("bounds 2 1:1:1 1:1", 2), ("bounds 2 1::1 1:1", 2),
            ("bounds 2 1:1: 1:1", 2), ("bounds 2 :1:1 1:1", 2), ("bounds 2  1:2 1:1", 2), ("bounds 2 1:1\n 1:1", 2),
            ("bounds 2 1:2", 3), ("bounds 2 1:2 ", 3), ("bounds 2 1:2 1:3", 3), ("bounds 2 1:2 x 1:1", 3),
            ("bounds 2 1:2 1:1\n", 3), ("bounds 2 1:2  1:1", 3), ("bounds 1 1:1 1:2", 3),
            ("bounds 2 1:2 1:1 ", 4), ("bounds 2 1:2 1:1 1:1", 4), ("bounds 2 1:2 1:1 x", 4), ("bounds 2 1:2 1:1  ", 4),
        ):
            self.same(self.looked_at(SHORT, text), field, text)
        for text, field in (("bounds", 1), ("bounds 0", 1), ("bounds 5 ", 2), ("bounds 5 1:1", 2), ("bounds 1000", 1)):
            self.same(self.looked_at((), text), field, text)

    def test_roofs(self):
        for roof in (0, 1, 998, 999, 1000, 9990):
            self.same(self.looked_at((), f"bounds {roof}"), None if 1 <= roof <= 999 else 1)
            for reach in (1, roof, roof + 1):
                self.looked_at((0,), f"bounds {roof} 999:{reach}")
                self.looked_at((0,), f"bounds {roof} 1000:{reach}")

    def test_lines(self):
        for history in samples.SMALL[::2] + samples.LARGE:
            for bounds in bound_samples.some_bounds(history, 1):
                line = self.answer(bounds_line, history, bounds)
                self.gives(bounds, read_bounds, history, line)
                self.same(bounds_field(history, line), None)

    def test_near_lines(self):
        for history in ((), (0,), SHORT, (0, 1, 1, 3)):
            for bounds in list(bound_samples.some_bounds(history, 1))[1::4]:
                line = bounds_line(history, bounds)
                for text in (*with_words(line), *near_texts(line)):
                    self.looked_at(history, text)

    def test_all_signs(self):
        line = "bounds 12 3:4 15:10"
        for k in range(len(line) + 1):
            for sign in " 0123456789:+-\nxb_.,":
                self.looked_at(SHORT, line[:k] + sign + line[k:])
                self.looked_at(SHORT, line[:k] + sign + line[k + 1:])
            self.looked_at(SHORT, line[:k] + line[k + 1:])

    def test_of_another_history(self):
        for history in ((), (0,), SHORT, (0, 0, 0)):
            for many in range(5):
                self.looked_at(history, " ".join(["bounds 3"] + ["2:3"] * many))

    def test_strings(self):
        for text in samples.STRINGS:
            for history in ((), SHORT):
                self.looked_at(history, text)
        self.looked_at((0,), "bounds " + "9" * 3900)
        self.looked_at((0,), "bounds 5 " + "9" * 3900 + ":1")

    def test_refusals(self):
        for bad in samples.ODD + samples.INTEGERS + samples.NO_TEXTS:
            self.refuses("text", read_bounds, SHORT, bad)
            self.refuses("text", read_heights, SHORT, bad)
        for history in ((0,), samples.WIDE):
            for bad in bound_samples.bad_bounds(history):
                self.refuses("bounds", bounds_line, history, bad)
            for bad in store_samples.no_heights(history):
                self.refuses("heights", heights_line, history, bad)


class Heights(Case):
    def looked_at(self, history, text):
        field = heights_field(history, text)
        if field is None:
            heights = tuple(int(word) for word in text.split(" ")[1:])
            self.gives(heights, read_heights, history, text)
            self.gives(text, heights_line, history, heights)
        else:
            self.fails("InvalidText", (0, field), read_heights, history, text)
        return field

    def test_by_hand(self):
        self.gives("heights 2 1", heights_line, SHORT, (2, 1))
        self.gives("heights", heights_line, (), ())
        self.gives((2, 1), read_heights, SHORT, "heights 2 1")
        self.gives((GREAT,), read_heights, (0,), f"heights {GREAT}")
        for text, field in (
            ("", 0), ("height 1 1", 0), ("heights\n1 1", 0), ("heights", 1), ("heights ", 1), ("heights 0 1", 1),
            ("heights -1 1", 1), ("heights 01 1", 1), ("heights +1 1", 1), ("heights  1 1", 1), ("heights x", 1),
            ("heights 1", 2), ("heights 1 ", 2), ("heights 1 0", 2), ("heights 1 1\n", 2), ("heights 1  1", 2),
            ("heights 1 1 1", 3), ("heights 1 1 ", 3), ("heights 1 1 0", 3), ("bounds 2 1:1 1:1", 0),
        ):
            self.same(self.looked_at(SHORT, text), field, text)
        self.same(self.looked_at((), "heights 1"), 1)
        self.same(self.looked_at((), "heights "), 1)

    def test_lines(self):
        for history in samples.SMALL[::2] + samples.LARGE:
            for heights in some_heights(history, 1):
                line = self.answer(heights_line, history, heights)
                self.gives(heights, read_heights, history, line)

    def test_near_lines(self):
        for history in ((), (0,), SHORT, (0, 1, 1)):
            for heights in list(some_heights(history, 1))[2::4]:
                line = heights_line(history, heights)
                for text in (*with_words(line), *near_texts(line)):
                    self.looked_at(history, text)

    def test_strings(self):
        for text in samples.STRINGS:
            for history in ((), SHORT):
                self.looked_at(history, text)


class Samples(Case):
    def test_the_words_of_the_tests(self):
        # What the tests themselves take for pairs.
        self.same([word for word in WORDS if is_pair_word(word, 1)], ["1:1", "2:1", "999:1"])
        self.assertIsNone(plain_bounds.bounds_fault(SHORT, TIGHT))
