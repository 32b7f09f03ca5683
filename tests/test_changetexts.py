"""[22] Changes as words."""
import re

from sincemarks.changetexts import change_word, read_change
from tests import plain, samples
from tests.cases import Case
from tests.samples import GREAT

THIRTY = "9" * 30

# Kind, change, word.
WORDS = (
    (("sum",), 0, "0"), (("sum",), 5, "5"), (("sum",), -5, "-5"), (("sum",), 10, "10"), (("sum",), GREAT, THIRTY),
    (("sum",), -GREAT, "-" + THIRTY), (("sum",), 10 ** 29, "1" + "0" * 29),
    (("peak",), 0, "0"), (("peak",), 120, "120"), (("peak",), GREAT, THIRTY),
    (("set",), (), "-"), (("set",), (0,), "0"), (("set",), (7,), "7"), (("set",), (0, 3, 10), "0,3,10"),
    (("set",), (9, 10), "9,10"), (("set",), (0, GREAT), "0," + THIRTY),
    (("last",), (), "-"), (("last",), ((0, 5),), "0:5"), (("last",), ((0, -5), (3, None)), "0:-5,3:x"),
    (("last",), ((0, None),), "0:x"), (("last",), ((2, 0), (10, None), (11, 7)), "2:0,10:x,11:7"),
    (("last",), ((GREAT, -GREAT),), THIRTY + ":-" + THIRTY),
    (("affine", 7), (1, 0), "1,0"), (("affine", 7), (6, 5), "6,5"), (("affine", 999), (998, 10), "998,10"),
    (("affine", 2), (0, 0), "0,0"),
    (("square", 10), (1, 0, 0, 1), "1,0,0,1"), (("square", 999), (998, 10, 0, 7), "998,10,0,7"),
    (("turn", 1), (0,), "0"), (("turn", 3), (2, 0, 1), "2,0,1"), (("turn", 2), (0, 1), "0,1"),
    (("turn", 9), (8, 7, 6, 5, 4, 3, 2, 1, 0), "8,7,6,5,4,3,2,1,0"),
    (("tail",), (2, "ab"), "2=ab"), (("tail",), (0, ""), "0="), (("tail",), (10, ""), "10="),
    (("tail",), (0, "x"), "0=x"), (("tail",), (GREAT, "z" * 40), THIRTY + "=" + "z" * 40),
    (("text",), "", "="), (("text",), "a", "=a"), (("text",), "hello", "=hello"), (("text",), "x", "=x"),
    (("text",), "abcdefghij" * 4, "=" + "abcdefghij" * 4),
)

# Of each kind what is nearly the word of a change.
NO_INTEGERS = (
    "", " ", "\n", "-", "--5", "+5", "+", "05", "00", "-0", "-05", "+0", " 5", "5 ", "5\n", "\n5", " 5 ",
    "5,", ",5", "5,6", "5.0", "5e1", "1_000", "0x5", "x", "five", "None", "True", "=5", "5=", "0:5", "5-", "- 5",
    "5 6", "5\n6", "0-5", "(5)", "a", "1 000", "1,000",
)
NO_WORDS = {
    ("sum",): NO_INTEGERS,
    ("peak",): NO_INTEGERS + ("-1", "-5", "-" + THIRTY),
    ("set",): (
        "", " ", "\n", "--", "-,", ",-", "-,1", "1,-", ",", ",,", "1,", ",1", "1,,2", "1, 2", "1 ,2", " 1,2", "1,2 ",
        "1,2\n", "\n1", "1\n", "-\n", " -", "- ", "2,1", "1,1", "0,0", "0,1,1", "01", "00", "+1", "-1", "-0", "-1,0",
        "1;2", "1:2", "()", "(1)", "x", "1,x", "=1", "a", "1.2", "1_0", "1,2,3,2",
    ),
    ("last",): (
        "", " ", "\n", "--", "-,", ",", ":", "0", "x", "0:", ":5", "0:5,", ",0:5", "0:5,,1:6", "0:5, 1:6", " 0:5",
        "0:5 ", "0:5\n", "\n0:5", "0: 5", "0 :5", "0:05", "00:5", "0:+5", "+0:5", "-0:5", "0:-0", "-1:5", "0:X",
        "0:xx", "0:None", "0:-x", "x:0", "x:x", ":x", "0x", "0=x", "0=5", "0:x:x", "0:5:6", "0::5", "1:5,0:6",
        "0:5,0:6", "0:5,0:5", "0:x,0:x", "0:x\n", "0:x ", "0:5,-", "-,0:5", "0,5", "0:5;1:6", "0:5,1", "1,0:5",
        "-\n", " -", "0:-", "0:--5", "0:y", "0:5.0", "0:",
    ),
    ("affine", 7): (
        "", "-", "1", "1,", ",1", ",", "1,0,", "1,0,0", "1,,0", "1, 0", " 1,0", "1,0 ", "1,0\n", "01,0", "1,00", "+1,0",
        "-1,0", "1,-0", "7,0", "0,7", "1,x", "x", "1:0", "1;0", "1 0", "=1", "10,0", "1,0\n0",
    ),
    ("square", 10): (
        "", "-", "1", "1,0", "1,0,0", "1,0,0,", "1,0,0,1,", "1,0,0,1,0", "1,0,,0,1", "1,0,0, 1", " 1,0,0,1", "1,0,0,1\n",
        "10,0,0,1", "1,10,0,1", "1,0,10,1", "1,0,0,10", "01,0,0,1", "1,0,0,01", "-1,0,0,1", "+1,0,0,1", "1,0,0,x",
    ),
    ("turn", 3): (
        "", "-", "0", "0,1", "0,1,2,", ",0,1,2", "0,1,2,3", "0,1,3", "1,2,3", "0,0,1", "0,1,1", "0, 1,2", " 0,1,2",
        "0,1,2 ", "0,1,2\n", "00,1,2", "0,01,2", "-0,1,2", "+0,1,2", "0,1,-2", "0,1,x", "012", "0 1 2", "0:1:2",
    ),
    ("turn", 1): ("", "-", "1", "00", "-0", "+0", "0,", ",0", "0,0", "0\n", " 0"),
    ("tail",): (
        "", "=", "=a", "2", "a", "-", "2=A", "2=a ", "2= a", " 2=a", "2 =a", "2=a\n", "2\n=a", "\n2=a", "2==", "2=a=b",
        "2==a", "02=a", "+2=a", "-2=a", "-0=a", "-1=", "2:a", "2,a", "2=a1", "2=1", "2a", "x=a", "2=a b", "2=-", "2=a,b",
        "2-a", "2.0=a", "1_0=a",
    ),
    ("text",): (
        "", "a", "-", "==", "=A", "= ", "=a ", " =a", "=a\n", "\n=a", "=\n", "=a b", "=a1", "=1", "=-", "==a", "=a=", "a=",
        "0=a", "=a,b", "='a'", "x=a", "=aB", "=_",
    ),
}

NUMBER = "(?:0|[1-9][0-9]*)"
INTEGER = "(?:0|-?[1-9][0-9]*)"
FORMS = {
    "sum": INTEGER,
    "peak": NUMBER,
    "set": f"-|{NUMBER}(?:,{NUMBER})*",
    "last": f"-|{NUMBER}:(?:x|{INTEGER})(?:,{NUMBER}:(?:x|{INTEGER}))*",
    "affine": f"{NUMBER},{NUMBER}",
    "square": f"{NUMBER},{NUMBER},{NUMBER},{NUMBER}",
    "turn": f"{NUMBER}(?:,{NUMBER})*",
    "tail": f"{NUMBER}=[a-z]*",
    "text": "=[a-z]*",
}


def told_by(kind, text):
    """The change that the word tells, None if there is none."""
    name = kind[0]
    if not re.fullmatch(FORMS[name], text):
        return None
    if name in ("sum", "peak"):
        change = int(text)
    elif name == "text":
        change = text[1:]
    elif name == "tail":
        change = (int(text[:text.index("=")]), text[text.index("=") + 1:])
    elif text == "-":
        change = ()
    elif name == "last":
        pairs = [pair.split(":") for pair in text.split(",")]
        change = tuple((int(key), None if value == "x" else int(value)) for key, value in pairs)
    else:
        change = tuple(int(word) for word in text.split(","))
    return change if plain.is_change(kind, change) else None


def near(word):
    """The word with one sign more, one less, one changed, two exchanged."""
    signs = "0159-+=:,x ab\nA._"
    for k in range(len(word) + 1):
        for sign in signs:
            yield word[:k] + sign + word[k:]
            yield word[:k] + sign + word[k + 1:]
        yield word[:k] + word[k + 1:]
        yield word[:k] + word[k:k + 2][::-1] + word[k + 2:]


class Words(Case):
    def test_table(self):
        for kind, change, word in WORDS:
            self.gives(word, change_word, kind, change)
            self.gives(change, read_change, kind, word)

    def test_written_and_read_back(self):
        for kind in samples.KINDS:
            source = samples.chance("words", kind)
            for change in samples.changes_of(kind) + samples.some_changes(kind, 40, source):
                word = self.answer(change_word, kind, change)
                self.same(told_by(kind, word), change, word)
                self.gives(change, read_change, kind, word)

    def test_what_is_no_word(self):
        for kind, words in NO_WORDS.items():
            for word in words:
                self.fails("InvalidText", (0, 0), read_change, kind, word)

    def test_words_that_are_near_to_one(self):
        for kind in samples.KINDS:
            source = samples.chance("near", kind)
            for change in samples.changes_of(kind)[:5] + samples.some_changes(kind, 5, source):
                word = change_word(kind, change)
                for text in near(word if len(word) < 24 else word[:24]):
                    self.looked_at(kind, text)

    def test_words_of_other_kinds(self):
        for kind in samples.KINDS:
            for _, _, word in WORDS:
                self.looked_at(kind, word)
            for text in samples.STRINGS:
                self.looked_at(kind, text)

    def test_each_sign_beside_a_word(self):
        for kind, _, word in WORDS[::3]:
            for code in [10] + list(range(32, 127)):
                for text in (chr(code), word + chr(code), chr(code) + word):
                    self.looked_at(kind, text)

    def looked_at(self, kind, text):
        change = told_by(kind, text)
        if change is None:
            self.fails("InvalidText", (0, 0), read_change, kind, text)
        else:
            self.gives(change, read_change, kind, text)
            self.gives(text, change_word, kind, change)

    def test_limits(self):
        forty = tuple(range(GREAT - 39, GREAT + 1))
        self.gives(",".join(str(k) for k in forty), change_word, ("set",), forty)
        self.gives(forty, read_change, ("set",), ",".join(str(k) for k in forty))
        pairs = tuple((k, -GREAT) for k in forty)
        word = ",".join(f"{k}:-{THIRTY}" for k in forty)
        self.gives(word, change_word, ("last",), pairs)
        self.gives(pairs, read_change, ("last",), word)

    def test_refusals(self):
        for bad in samples.NO_KINDS:
            self.refuses("kind", change_word, bad, 0)
            self.refuses("kind", change_word, bad, None)
            self.refuses("kind", read_change, bad, "0")
            self.refuses("kind", read_change, bad, None)
            self.refuses("kind", read_change, bad, "no word")
        for kind in samples.KINDS:
            for thing in samples.ANY:
                if not plain.is_change(kind, thing):
                    self.refuses("change", change_word, kind, thing)
                if not isinstance(thing, str):
                    self.refuses("text", read_change, kind, thing)
            for bad in samples.NO_TEXTS:
                self.refuses("text", read_change, kind, bad)
