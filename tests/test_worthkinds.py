"""[14] The nine kinds, their changes, blanks and needs; [16] the checker of kinds."""
import itertools

from sincemarks.kindchecker import lets_kind
from sincemarks.worthkinds import blank_of, is_change, is_kind, need_of
from tests import plain, samples
from tests.cases import Case
from tests.samples import GREAT

SINGLE = ("sum", "peak", "set", "last", "tail", "text")
BOUNDED = (("affine", 2, 999), ("square", 2, 999), ("turn", 1, 9))

BLANKS = (
    (("sum",), 0), (("peak",), 0), (("set",), ()), (("last",), ()), (("affine", 2), (1, 0)),
    (("affine", 7), (1, 0)), (("affine", 999), (1, 0)), (("square", 2), (1, 0, 0, 1)),
    (("square", 999), (1, 0, 0, 1)), (("turn", 1), (0,)), (("turn", 2), (0, 1)),
    (("turn", 4), (0, 1, 2, 3)), (("turn", 9), (0, 1, 2, 3, 4, 5, 6, 7, 8)), (("tail",), (0, "")),
    (("text",), ""),
)

# Of each name of a kind what is nearly a change.
NO_INTEGERS = (True, False, None, "", "1", (), (1,), [1])
NO_CHANGES = {
    "sum": NO_INTEGERS,
    "peak": NO_INTEGERS + (-1, -GREAT),
    "set": (
        [], [0], (1, 0), (0, 0), (1, 1, 2), (0, 2, 2), (0, 2, 1), (-1,), (-1, 0), (True,), (0, True),
        (False, 1), (None,), ("0",), ((0,),), 0, None, "", "0,1", tuple(range(40)) + (39,),
    ),
    "last": (
        [], [(0, 5)], (0, 5), ([0, 5],), ((0, 5), [1, 6]), ((0,),), ((0, 5, 6),), ((),), (((0, 5),),),
        ((1, 5), (0, 6)), ((0, 5), (0, 5)), ((0, 5), (0, 6)), ((0, 1), (2, 3), (2, 4)),
        ((0, 1), (2, 3), (1, 4)), ((-1, 5),), ((-1, 5), (0, 5)), ((True, 5),), ((0, 1), (True, 5)),
        ((False, 5),), ((None, 5),), (("0", 5),), (((0,), 5),), ((0, True),), ((0, False),),
        ((0, "x"),), ((0, ""),), ((0, (5,)),), ((0, ()),), ((0, [5]),), ((0, 1), (1, True)),
        (None,), (0,), ("ab",), "", "0:5", None, 0, True,
    ),
    "tail": (
        [0, ""], (0,), ("",), (0, "", ""), (0, "a", 1), ("", 0), ("a", 1), (-1, ""), (-1, "a"),
        (True, ""), (False, "a"), (None, ""), ("0", "a"), ((0,), "a"), (0, None), (0, 1), (0, True),
        (0, ()), (0, ("a",)), (0, ["a"]), (0, "A"), (0, "a b"), (0, "a\n"), (0, "\n"), (0, " "),
        (0, "a1"), (), 0, "", "0=", None,
    ),
    "text": (
        "A", "aB", "a ", " a", " ", "\n", "a\n", "a1", "0", "-", "=", "=a", "a,b", "`", "{", ("a",), ["a"],
        (), [], 0, 1, None, True, False,
    ),
}


def nearly(numbers, modulus):
    """What is nearly the tuple of these numbers below modulus."""
    found = [list(numbers), numbers + (0,), numbers[:-1], (numbers,), (), 0, None, "", True]
    for k in range(len(numbers)):
        for wrong in (modulus, modulus + 1, -1, -modulus, GREAT, True, False, None, "0", "", (0,), [0]):
            found.append(numbers[:k] + (wrong,) + numbers[k + 1:])
    return found


class Kinds(Case):
    def test_kinds(self):
        for name in SINGLE:
            self.gives(True, is_kind, (name,))
        for name, least, greatest in BOUNDED:
            for bound in range(-3, 1010):
                self.gives(least <= bound <= greatest, is_kind, (name, bound))

    def test_edges(self):
        for name in ("affine", "square"):
            for bound, want in ((1, False), (2, True), (999, True), (1000, False)):
                self.gives(want, is_kind, (name, bound))
        for bound, want in ((0, False), (1, True), (9, True), (10, False)):
            self.gives(want, is_kind, ("turn", bound))

    def test_no_kinds(self):
        for thing in samples.NO_KINDS:
            self.gives(False, is_kind, thing)
        for thing in samples.ANY:
            self.gives(thing in (("sum",), ("turn", 3)), is_kind, thing)

    def test_blanks(self):
        for kind, blank in BLANKS:
            self.gives(blank, blank_of, kind)
            self.gives(True, is_change, kind, blank)
        for kind in samples.KINDS:
            self.gives(plain.blank(kind), blank_of, kind)

    def test_needs(self):
        for kind in samples.KINDS:
            self.gives(samples.NEEDS[kind[0]], need_of, kind)

    def test_refusals(self):
        for thing in samples.NO_KINDS:
            self.refuses("kind", blank_of, thing)
            self.refuses("kind", need_of, thing)
            for change in (0, None, ()):
                self.refuses("kind", is_change, thing, change)


class Changes(Case):
    def test_changes(self):
        for kind in samples.KINDS:
            source = samples.chance("changes", kind)
            for change in samples.changes_of(kind) + samples.some_changes(kind, 20, source):
                self.gives(True, is_change, kind, change)

    def test_limits(self):
        self.gives(True, is_change, ("sum",), GREAT)
        self.gives(True, is_change, ("sum",), -GREAT)
        self.gives(True, is_change, ("peak",), GREAT)
        self.gives(True, is_change, ("set",), tuple(range(40)))
        self.gives(True, is_change, ("last",), tuple((GREAT - 40 + k, -GREAT) for k in range(40)))
        self.gives(True, is_change, ("tail",), (GREAT, "z" * 40))
        self.gives(True, is_change, ("text",), "abcdefghij" * 4)

    def test_what_is_put_together_may_have_more(self):
        self.gives(True, is_change, ("text",), "a" * 4000)
        self.gives(True, is_change, ("set",), tuple(range(4000)))
        self.gives(True, is_change, ("sum",), 40 * GREAT)

    def test_what_is_nearly_one(self):
        for name, things in NO_CHANGES.items():
            for thing in things:
                self.gives(False, is_change, (name,), thing)

    def test_what_is_nearly_one_below_a_modulus(self):
        for name, many in (("affine", 2), ("square", 4)):
            for modulus in (2, 3, 7, 999):
                for numbers in ((0,) * many, (1,) * many, (modulus - 1,) * many):
                    self.gives(True, is_change, (name, modulus), numbers)
                    for thing in nearly(numbers, modulus):
                        self.gives(False, is_change, (name, modulus), thing)

    def test_what_is_nearly_a_turn(self):
        for size in range(1, 10):
            for turn in samples.turns(size):
                self.gives(True, is_change, ("turn", size), turn)
                for thing in nearly(turn, size):
                    self.gives(False, is_change, ("turn", size), thing)
                for k in range(1, size):
                    twice = turn[:k] + turn[:1] + turn[k + 1:]
                    self.gives(False, is_change, ("turn", size), twice)
            from_one = tuple(range(1, size + 1))
            self.gives(False, is_change, ("turn", size), from_one)

    def test_all_short_tuples_as_turns(self):
        for size in (1, 2, 3):
            for many in range(5):
                for thing in itertools.product((-1, 0, 1, 2, 3, True, False), repeat=many):
                    self.gives(plain.is_change(("turn", size), thing), is_change, ("turn", size), thing)

    def test_values_of_any_sort_and_changes_of_other_kinds(self):
        others = tuple(change for kind in samples.KINDS for change in samples.changes_of(kind)[:12])
        for kind in samples.KINDS:
            for thing in samples.ANY + others:
                self.gives(plain.is_change(kind, thing), is_change, kind, thing)


class Checker(Case):
    def test_needs_of_all_kinds(self):
        for name in SINGLE:
            self.gives(samples.NEEDS[name], lets_kind, (name,))
        for name, least, greatest in BOUNDED:
            for bound in range(least, greatest + 1):
                self.gives(samples.NEEDS[name], lets_kind, (name, bound))

    def test_words_and_places(self):
        for thing, word, at in samples.FAULTY_KINDS:
            self.fails("InvalidPaper", (word, at), lets_kind, thing)

    def test_all_names_with_all_lengths(self):
        for name in samples.WORDS:
            many = 1 if name in SINGLE else 2
            for length in range(5):
                thing = (name,) + (5,) * (length - 1) if length else ()
                if length not in (1, 2):
                    self.fails("InvalidPaper", ("shape", -1), lets_kind, thing)
                elif length != many:
                    self.fails("InvalidPaper", ("many", -1), lets_kind, thing)
                else:
                    self.gives(samples.NEEDS[name], lets_kind, thing)

    def test_the_first_word_that_applies(self):
        for thing, word, at in (
            (("none", 0, 0), "shape", -1), (["none"], "shape", -1), (("none", 0), "name", 0),
            (("sum", 0), "many", -1), (("sum", 1000), "many", -1), (("affine", 0), "bound", 1),
        ):
            self.fails("InvalidPaper", (word, at), lets_kind, thing)

    def test_values_of_any_sort(self):
        for thing in samples.ANY:
            if is_kind(thing):
                self.gives(need_of(thing), lets_kind, thing)
                continue
            if type(thing) is not tuple or len(thing) not in (1, 2):
                self.fails("InvalidPaper", ("shape", -1), lets_kind, thing)
            else:
                self.fails("InvalidPaper", ("name", 0), lets_kind, thing)
