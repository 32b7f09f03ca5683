"""[52] Shapes as words."""
import re

from sincemarks.shapetexts import read_shape, shape_word
from tests import plain_levels, samples, shape_samples
from tests.cases import Case
from tests.samples import GREAT
from tests.test_shapes import NO_SHAPES

HEAD = re.compile("([1-9][0-9]*)x([1-9][0-9]*)")


def shape_in(text):
    """The shape with this word, None if there is none: inner brackets are read first and put away."""
    if text == "-":
        return ()
    kept = []
    while found := re.search(r"\(([^()]*)\)", text):
        inner = triples_in(found[1], kept)
        if inner is None:
            return None
        kept.append(inner)
        text = text[:found.start()] + f"#{len(kept) - 1};" + text[found.end():]
    return triples_in(text, kept)


def triples_in(text, kept):
    triples = []
    for word in text.split(","):
        found = re.fullmatch("([1-9][0-9]*)x([1-9][0-9]*)(?:#([0-9]+);)?", word)
        if not found:
            return None
        triples.append((int(found[1]), int(found[2]), kept[int(found[3])] if found[3] else ()))
    return tuple(triples)


def near(word):
    """The word with signs changed, put in, left out, doubled, exchanged."""
    for k in range(len(word) + 1):
        yield word[:k]
        yield word[k:]
        yield word[:k] + word[k + 1:]
        yield word[:k] + word[k:k + 1] * 2 + word[k + 1:]
        yield word[:k] + word[k + 1:k + 2] + word[k:k + 1] + word[k + 2:]
        for sign in "0129x,()-+ \n.a":
            yield word[:k] + sign + word[k:]
            yield word[:k] + sign + word[k + 1:]


class Words(Case):
    def looked_at(self, text):
        # The tests' own reader marks what it put away by signs that are in no word.
        shape = None if "#" in text or ";" in text else shape_in(text)
        if shape is None:
            self.fails("InvalidText", (0, 0), read_shape, text)
        else:
            self.gives(shape, read_shape, text)
            self.gives(text, shape_word, shape)
        return shape

    def test_by_hand(self):
        for text, shape in (
            ("-", ()), ("1x1", ((1, 1, ()),)), ("1x1(3x2,1x4),2x5", ((1, 1, ((3, 2, ()), (1, 4, ()))), (2, 5, ()))),
            ("2x3(4x5(6x7))", ((2, 3, ((4, 5, ((6, 7, ()),)),)),)), (f"{GREAT}x{GREAT}", ((GREAT, GREAT, ()),)),
            ("1x1(1x1),1x1(1x1(1x1),1x1)", ((1, 1, ((1, 1, ()),)), (1, 1, ((1, 1, ((1, 1, ()),)), (1, 1, ()))))),
        ):
            self.gives(text, shape_word, shape)
            self.gives(shape, read_shape, text)

    def test_no_words(self):
        for text in (
            "", "1x2(-)", "1x2()", "()", "(-)", "(1x2)", "-,1x1", "1x1,-", "--", "1x1,", ",1x1", "1x1,,1x1", "1x1(1x1,)",
            "1x1(,1x1)", "1x1(1x1", "1x1)", "1x1(1x1))", "1x1((1x1))", "1x1(1x1)(1x1)", "1x1(1x1)1x1", "1x1(1x1)1", "01x1",
            "1x01", "0x1", "1x0", "-1x1", "1x-1", "+1x1", "1x+1", "1x", "x1", "x", "1", "1X1", "1x1x1", "1xx1", "1 x1",
            " 1x1", "1x1 ", "1x1, 2x2", "1x1 (1x1)", "1x1\n", "\n1x1", "-\n", "\n", " ", "- ", "1x1\n,1x1", "1x1(1x1)\n",
            "1x1;1x1", "1x1[1x1]", "1.0x1", "1_0x1", "Truex1", "1x1(", "(", ")", ",", "1x1)(1x1", "1x1(1x1),", "1x1#0;",
            "1x1,(1x1)", "1x1(1x1),()", "\n(\n", "1x1\n(\n1x1\n)\n",
        ):
            self.assertIsNone(self.looked_at(text), text)

    def test_words_of_shapes(self):
        for shape in (*shape_samples.SMALL, *shape_samples.LARGE, *shape_samples.some_shapes(80)):
            word = self.answer(shape_word, shape)
            self.same(word, plain_levels.shape_word(shape))
            self.gives(shape, read_shape, word)

    def test_near_words(self):
        read = 0
        words = ("-", "1x1", "10x20", "1x2(3x4)", "1x1(3x2,1x4),2x5", "2x2(1x1(3x1)),1x1")
        for word in words:
            for text in near(word):
                read += self.looked_at(text) is not None
        self.assertGreater(read, 100)

    def test_bent_twice(self):
        for shape in shape_samples.some_shapes(20):
            source = samples.chance("bent", shape)
            for _ in range(20):
                text = shape_word(shape)
                for _ in range(2):
                    text = source.choice(list(near(text)))
                self.looked_at(text)

    def test_strings(self):
        for text in samples.STRINGS:
            self.looked_at(text)

    def test_long_strings(self):
        for text in (
            "(" * 4000, ")" * 4000, "1x1(" * 1000, "1x1" + "(1x1" * 999, "1x1," * 1000, "9" * 4000, "1x" + "9" * 3998,
            "," * 4000, "x" * 4000, "1x1(" * 800 + "-" + ")" * 800, "-" * 4000,
        ):
            if HEAD.fullmatch(text):
                self.gives(((1, int(text[2:]), ()),), read_shape, text)
            else:
                self.fails("InvalidText", (0, 0), read_shape, text)

    def test_refusals(self):
        for bad in samples.ODD + samples.INTEGERS + samples.NO_TEXTS + ((), ((1, 1, ()),)):
            self.refuses("text", read_shape, bad)
        for bad in NO_SHAPES:
            self.refuses("shape", shape_word, bad)
