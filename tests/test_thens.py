"""[15] Changes put together."""
from sincemarks.thens import put_together, then
from tests import plain, samples
from tests.cases import Case
from tests.samples import GREAT

# Kind, one, other, and what both make.
TOGETHER = (
    (("sum",), 5, -7, -2), (("sum",), GREAT, 1, 10 ** 30), (("sum",), -GREAT, GREAT, 0),
    (("peak",), 3, 5, 5), (("peak",), 5, 3, 5), (("peak",), 4, 4, 4), (("peak",), 0, 0, 0),
    (("set",), (1, 3), (0, 3, 9), (0, 1, 3, 9)), (("set",), (5,), (), (5,)), (("set",), (10,), (9,), (9, 10)),
    (("set",), (0, 1), (0, 1), (0, 1)),
    (("last",), ((0, 1), (2, 3)), ((0, 5), (1, 4)), ((0, 5), (1, 4), (2, 3))),
    (("last",), ((0, 1),), ((0, None),), ((0, None),)),
    (("last",), ((0, None),), (), ((0, None),)), (("last",), ((0, None),), ((0, 0),), ((0, 0),)),
    (("last",), ((1, None), (10, 2)), ((9, 3),), ((1, None), (9, 3), (10, 2))),
    (("affine", 7), (2, 3), (4, 5), (1, 3)), (("affine", 7), (4, 5), (2, 3), (1, 6)),
    (("affine", 999), (998, 998), (998, 998), (1, 0)), (("affine", 2), (1, 1), (1, 1), (1, 0)),
    (("square", 10), (1, 2, 3, 4), (5, 6, 7, 8), (9, 2, 3, 0)),
    (("square", 999), (1, 2, 3, 4), (5, 6, 7, 8), (19, 22, 43, 50)),
    (("square", 999), (5, 6, 7, 8), (1, 2, 3, 4), (23, 34, 31, 46)),
    (("square", 2), (1, 1, 0, 1), (1, 1, 0, 1), (1, 0, 0, 1)),
    (("turn", 3), (1, 2, 0), (0, 2, 1), (2, 1, 0)), (("turn", 3), (0, 2, 1), (1, 2, 0), (1, 0, 2)),
    (("turn", 3), (1, 2, 0), (1, 2, 0), (2, 0, 1)), (("turn", 1), (0,), (0,), (0,)),
    (("tail",), (1, "ab"), (3, "c"), (2, "c")), (("tail",), (1, "ab"), (2, "c"), (1, "c")),
    (("tail",), (1, "ab"), (1, "c"), (1, "ac")), (("tail",), (1, "ab"), (0, "c"), (1, "abc")),
    (("tail",), (5, ""), (0, "c"), (5, "c")), (("tail",), (5, ""), (2, ""), (7, "")),
    (("tail",), (0, "abc"), (3, ""), (0, "")), (("tail",), (0, "abc"), (4, ""), (1, "")),
    (("text",), "ab", "c", "abc"), (("text",), "c", "ab", "cab"), (("text",), "", "", ""),
)


def all_changes(kind):
    """All changes of a small kind."""
    if kind[0] == "turn":
        return [t for t in samples.itertools.permutations(range(kind[1]))]
    many = 2 if kind[0] == "affine" else 4
    return list(samples.itertools.product(range(kind[1]), repeat=many))


class Then(Case):
    def test_table(self):
        for kind, one, other, want in TOGETHER:
            self.gives(want, then, kind, one, other)

    def test_pairs_of_samples(self):
        for kind in samples.KINDS:
            changes = samples.changes_of(kind)[:16]
            for one in changes:
                for other in changes:
                    self.gives(plain.then(kind, one, other), then, kind, one, other)

    def test_pairs_by_chance(self):
        for kind in samples.KINDS:
            source = samples.chance("then", kind)
            for _ in range(150):
                one, other = samples.some_changes(kind, 2, source)
                self.gives(plain.then(kind, one, other), then, kind, one, other)

    def test_all_pairs_of_small_kinds(self):
        for kind in (("affine", 2), ("affine", 3), ("affine", 4), ("square", 2), ("turn", 3)):
            changes = all_changes(kind)
            for one in changes:
                for other in changes:
                    self.gives(plain.then(kind, one, other), then, kind, one, other)

    def test_tails_are_as_on_a_text(self):
        start = "abcdefghijklmnopqrstuvwxyz"
        source = samples.chance("tails")

        def put_on(text, change):
            return text[:len(text) - change[0]] + change[1]

        for _ in range(300):
            one, other = [(source.randint(0, 6), "xyz"[:source.randint(0, 3)]) for _ in range(2)]
            both = self.answer(then, ("tail",), one, other)
            self.same(put_on(start, both), put_on(put_on(start, one), other))

    def test_three_in_whatever_way(self):
        for kind in samples.KINDS:
            source = samples.chance("three", kind)
            for _ in range(80):
                x, y, z = samples.some_changes(kind, 3, source)
                left = then(kind, then(kind, x, y), z)
                self.same(left, then(kind, x, then(kind, y, z)), (kind, x, y, z))
                self.same(left, put_together(kind, (x, y, z)), (kind, x, y, z))

    def test_blank_on_either_side(self):
        for kind in samples.KINDS:
            for change in samples.changes_of(kind):
                self.gives(change, then, kind, plain.blank(kind), change)
                self.gives(change, then, kind, change, plain.blank(kind))

    def test_exchanged_unless_order(self):
        for kind in samples.KINDS:
            if samples.NEEDS[kind[0]] == "order":
                continue
            changes = samples.changes_of(kind)
            for one in changes:
                for other in changes:
                    self.same(then(kind, one, other), then(kind, other, one), kind)

    def test_twice_the_same_where_any(self):
        for kind in samples.KINDS:
            if samples.NEEDS[kind[0]] == "any":
                for change in samples.changes_of(kind):
                    self.gives(change, then, kind, change, change)

    def test_refusals(self):
        for kind in samples.NO_KINDS:
            self.refuses("kind", then, kind, 0, 0)
        for kind in samples.KINDS:
            good = samples.changes_of(kind)[-1]
            for bad in self.wrong_for(kind):
                self.refuses("one", then, kind, bad, good)
                self.refuses("other", then, kind, good, bad)
                self.refuses("one", then, kind, bad, bad)
        for bad in (True, None, "0", [0]):
            self.refuses("kind", then, ("sums",), bad, 0)
            self.refuses("kind", then, ["sum"], bad, bad)
            self.refuses("kind", then, ("sum", 7), 0, bad)

    def wrong_for(self, kind):
        return [thing for thing in samples.ANY if not plain.is_change(kind, thing)]


class PutTogether(Case):
    def test_none_and_one(self):
        for kind in samples.KINDS:
            self.gives(plain.blank(kind), put_together, kind, ())
            for change in samples.changes_of(kind):
                self.gives(change, put_together, kind, (change,))

    def test_many(self):
        for kind in samples.KINDS:
            source = samples.chance("many", kind)
            for many in (2, 3, 5, 8, 17, 40, 90):
                changes = samples.some_changes(kind, many, source)
                self.gives(plain.whole(kind, changes), put_together, kind, changes)

    def test_neighbours_in_whatever_way(self):
        for kind in samples.KINDS:
            source = samples.chance("neighbours", kind)
            for _ in range(12):
                changes = samples.some_changes(kind, source.randint(2, 14), source)
                joined = list(changes)
                while len(joined) > 1:
                    k = source.randrange(len(joined) - 1)
                    joined[k:k + 2] = [then(kind, joined[k], joined[k + 1])]
                self.gives(joined[0], put_together, kind, changes)
                cut = source.randint(0, len(changes))
                parts = (put_together(kind, changes[:cut]), put_together(kind, changes[cut:]))
                self.gives(joined[0], put_together, kind, parts)

    def test_the_sequence_counts(self):
        self.gives("abc", put_together, ("text",), ("a", "b", "c"))
        self.gives((0, "ac"), put_together, ("tail",), ((0, "ab"), (1, ""), (0, "c")))
        self.gives(((0, 2), (1, 9)), put_together, ("last",), (((0, 1),), ((1, 9),), ((0, 2),)))
        self.gives((0, 3), put_together, ("affine", 7), ((2, 3), (0, 5), (3, 2)))
        self.gives((2, 1, 0), put_together, ("turn", 3), ((1, 2, 0), (0, 2, 1)))
        squares = ((1, 2, 3, 4), (5, 6, 7, 8), (0, 1, 1, 0))
        self.gives((2, 9, 0, 3), put_together, ("square", 10), squares)

    def test_limits(self):
        self.gives(40 * GREAT, put_together, ("sum",), (GREAT,) * 40)
        self.gives(-40 * GREAT, put_together, ("sum",), (-GREAT,) * 40)
        self.gives("abcdefghij" * 160, put_together, ("text",), ("abcdefghij" * 4,) * 40)
        self.gives((40 * GREAT, ""), put_together, ("tail",), ((GREAT, ""),) * 40)
        self.gives((0, "z" * 1600), put_together, ("tail",), ((0, "z" * 40),) * 40)
        sets = tuple(tuple(range(k, 1600, 40)) for k in range(40))
        self.gives(tuple(range(1600)), put_together, ("set",), sets)
        pairs = tuple(tuple((key, -GREAT) for key in range(k, 1600, 40)) for k in range(40))
        self.gives(tuple((key, -GREAT) for key in range(1600)), put_together, ("last",), pairs)
        self.gives(1000, put_together, ("sum",), (1,) * 1000)

    def test_refusals(self):
        for kind in samples.NO_KINDS:
            self.refuses("kind", put_together, kind, ())
            self.refuses("kind", put_together, kind, [])
            self.refuses("kind", put_together, kind, None)
        for kind in samples.KINDS:
            good = samples.changes_of(kind)
            wrong = [thing for thing in samples.ANY if not plain.is_change(kind, thing)]
            for bad in wrong:
                self.refuses("changes", put_together, kind, (bad,))
            for bad in wrong[::9]:
                self.refuses("changes", put_together, kind, (bad,) + good)
                self.refuses("changes", put_together, kind, good + (bad,))
            for bad in (None, True, 0, 5, "", "ab", [], list(good)):
                self.refuses("changes", put_together, kind, bad)
