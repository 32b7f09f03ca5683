"""Sheets as lines."""
from sincemarks.changetexts import change_word
from sincemarks.sheettexts import read_sheets, sheets_line
from tests import plain, samples, sheet_samples, text_samples
from tests.cases import Case
from tests.sheet_samples import NO_NUMBERS

SUM, TEXT, SET = ("sum",), ("text",), ("set",)


def all_words(kind):
    """The changes of samples by their words."""
    return {change_word(kind, change): change for change in samples.changes_of(kind)}


class Lines(Case):
    def looked_at(self, kind, many, text, words):
        """Reading is as told of a line all of whose words, if they can be read, are among these."""
        told = text.split(" ")
        if told[0] != "sheets":
            field = 0
        else:
            wrong = [k for k, word in enumerate(told[1:], start=1) if k > many or word not in words]
            field = wrong[0] if wrong else len(told)
        if field == many + 1 and field == len(told):
            self.gives(tuple(words[word] for word in told[1:]), read_sheets, kind, many, text)
        else:
            self.fails("InvalidText", (0, field), read_sheets, kind, many, text)

    def test_by_hand(self):
        self.gives("sheets =a =", sheets_line, TEXT, ("a", ""))
        self.gives("sheets", sheets_line, SUM, ())
        self.gives("sheets - 0,3", sheets_line, SET, ((), (0, 3)))
        self.gives("sheets 0= 2=ab", sheets_line, ("tail",), ((0, ""), (2, "ab")))
        self.gives((5, -2), read_sheets, SUM, 2, "sheets 5 -2")
        self.gives((), read_sheets, SUM, 0, "sheets")
        self.gives(("", "a"), read_sheets, TEXT, 2, "sheets = =a")
        self.gives(((), (0, 3)), read_sheets, SET, 2, "sheets - 0,3")
        self.fails("InvalidText", (0, 2), read_sheets, SUM, 2, "sheets 5")
        self.fails("InvalidText", (0, 3), read_sheets, SUM, 2, "sheets 5 6 7")
        self.fails("InvalidText", (0, 1), read_sheets, SUM, 2, "sheets x")
        self.fails("InvalidText", (0, 2), read_sheets, SUM, 2, "sheets 5  6")
        self.fails("InvalidText", (0, 1), read_sheets, SUM, 0, "sheets ")
        self.fails("InvalidText", (0, 1), read_sheets, SUM, 0, "sheets 5")
        self.fails("InvalidText", (0, 1), read_sheets, SUM, 5, "sheets")
        self.fails("InvalidText", (0, 3), read_sheets, SUM, samples.GREAT, "sheets 1 2")
        self.fails("InvalidText", (0, 2), read_sheets, SUM, 2, "sheets 5 6\n")
        self.fails("InvalidText", (0, 0), read_sheets, SUM, 0, "")
        self.fails("InvalidText", (0, 0), read_sheets, SUM, 0, "sheets\n")
        self.fails("InvalidText", (0, 0), read_sheets, SUM, 1, "sheet 5")

    def test_there_and_back(self):
        for kind in samples.KINDS:
            words = all_words(kind)
            source = samples.chance("sheet lines", kind)
            for many in (0, 1, 2, 3, 8):
                sheets = tuple(source.choice(samples.changes_of(kind)) for _ in range(many))
                line = " ".join(["sheets", *[change_word(kind, sheet) for sheet in sheets]])
                if len(line) <= 4000:
                    self.gives(line, sheets_line, kind, sheets)
                    self.gives(sheets, read_sheets, kind, many, line)
                    for other in (0, many - 1, many + 1, many + 5, samples.GREAT):
                        if other >= 0:
                            self.looked_at(kind, other, line, words)

    def test_near_lines(self):
        more = {"0": 0, "1": 1, "2": 2, "-1": -1, "999": 999, "1000": 1000}
        for sheets in ((), (1,), (2, 999)):
            for text in text_samples.near_texts(sheets_line(SUM, sheets)):
                words = {str(number): number for number in range(-999, 3)} | more
                words |= {word: int(word) for word in text.split(" ") if word.isdigit() and str(int(word)) == word}
                for many in (0, 1, 2, 3):
                    self.looked_at(SUM, many, text, words)
        letters = {"=": "", "=a": "a", "=ab": "ab", "=x": "x", "=s": "s"}
        for sheets in (("",), ("a", "ab")):
            for text in text_samples.near_texts(sheets_line(TEXT, sheets), text_samples.MORE + ("=A", "=x", "a", "==")):
                words = letters | {word: word[1:] for word in text.split(" ") if word[:1] == "=" and word[1:].isalpha()}
                words = {word: told for word, told in words.items() if told.islower() or told == ""}
                for many in (0, 1, 2, 3):
                    self.looked_at(TEXT, many, text, words)

    def test_words_of_each_kind(self):
        for kind in samples.NINE:
            words = {**all_words(kind)}
            good = change_word(kind, samples.changes_of(kind)[1])
            for bad in ("", "x", "=A", "1,", "0:", ":", "1=B", "00", "-0", "+", "True", "None", "\n", good + "\n", good + ",x"):
                if bad in words:
                    continue
                self.looked_at(kind, 2, f"sheets {good} {bad}", words)
                self.looked_at(kind, 2, f"sheets {bad} {good}", words)
                self.looked_at(kind, 2, f"sheets {bad} {bad} {good}", words)
                self.looked_at(kind, 1, f"sheets {good} {bad}", words)

    def test_a_full_line(self):
        sheets = ("abcdefghij" * 9,) * 40
        line = "sheets" + "".join(f" ={sheet}" for sheet in sheets)
        self.gives(line, sheets_line, TEXT, sheets)
        self.gives(sheets, read_sheets, TEXT, 40, line)

    def test_refusals(self):
        for kind in samples.NINE:
            sheets = samples.changes_of(kind)[:3]
            # Of any length, so fewer and more of them are sheets, too.
            bad = [thing for thing in sheet_samples.no_changes(kind, 3) if not self.are_changes(kind, thing)]
            self.refuses_each(sheets_line, (kind, sheets), {"kind": samples.NO_KINDS, "sheets": bad})
            self.refuses_each(read_sheets, (kind, 3, sheets_line(kind, sheets)), {
                "kind": samples.NO_KINDS, "many": NO_NUMBERS, "text": samples.NO_TEXTS,
            })

    def are_changes(self, kind, thing):
        return type(thing) is tuple and all(plain.is_change(kind, part) for part in thing)
