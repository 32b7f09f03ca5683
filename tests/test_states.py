"""[21] States, what leads between versions, changes of histories that are left on."""
from sincemarks.cuttings import left_on
from sincemarks.states import between, changes_on, state_of, states_of, taken_over
from sincemarks.thens import then
from tests import plain, samples
from tests.cases import Case
from tests.samples import GREAT

TEXT = ("text",)
ABCDEFG = ("a", "b", "c", "d", "e", "f", "g")


def told_books():
    """Kinds with histories and changes of all sorts."""
    histories = samples.SMALL[::2] + samples.LARGE[:3] + samples.LARGE[6:8] + samples.LARGE[12:14]
    for kind in samples.NINE + (("turn", 1), ("square", 999)):
        for history in histories:
            source = samples.chance("states", kind, history)
            yield kind, history, samples.some_changes(kind, len(history), source)


def large_books():
    for kind in samples.NINE:
        for history in samples.LARGE[3:]:
            source = samples.chance("large states", kind, history)
            yield kind, history, samples.some_changes(kind, len(history), source)


def version_pairs(history):
    """Pairs of versions, both ways round; in large histories only some."""
    versions = range(len(history) + 1)
    pairs = [(one, other) for one in versions for other in versions]
    return pairs if len(pairs) < 70 else samples.chance("pairs", history).sample(pairs, 70)


def wrong_changes(kind, changes):
    """What are no changes of the kind for as many versions."""
    found = [list(changes), changes + changes[:1], changes + (plain.blank(kind),), changes[:-1]]
    found += [None, 0, 5, True, "", "abcd", [], {"a": 1}, (changes,)]
    other = {"sum": "a", "text": 0}.get(kind[0], -1)
    for k in range(len(changes)):
        for wrong in (other, None, True, [], (None,)):
            found.append(changes[:k] + (wrong,) + changes[k + 1:])
    return [thing for thing in found if not (thing == changes and type(thing) is tuple)]


class States(Case):
    def test_states(self):
        for kind, history, changes in told_books():
            states = tuple(
                plain.state(kind, history, changes, version) for version in range(len(history) + 1)
            )
            self.gives(states, states_of, kind, history, changes)
            for version, state in enumerate(states):
                self.gives(state, state_of, kind, history, changes, version)

    def test_states_of_large_histories(self):
        for kind, history, changes in large_books():
            states = self.answer(states_of, kind, history, changes)
            self.same(len(states), len(history) + 1)
            for version in (0, 1, len(history) // 2, len(history)):
                want = plain.state(kind, history, changes, version)
                self.same(states[version], want)
                self.gives(want, state_of, kind, history, changes, version)

    def test_a_state_is_the_parents_state_then_the_change(self):
        for kind, history, changes in told_books():
            states = states_of(kind, history, changes)
            self.same(states[0], plain.blank(kind))
            for version, parent in plain.parents(history).items():
                self.same(states[version], then(kind, states[parent], changes[version - 1]))

    def test_by_hand(self):
        fork = samples.FORK
        states = ("", "a", "ab", "abc", "ad", "ade", "adef", "adefg")
        self.gives(states, states_of, TEXT, fork, ABCDEFG)
        self.gives("adef", state_of, TEXT, fork, ABCDEFG, 6)
        self.gives("", state_of, TEXT, fork, ABCDEFG, 0)
        self.gives("ef", between, TEXT, fork, ABCDEFG, 4, 6)
        self.gives("def", between, TEXT, fork, ABCDEFG, 1, 6)
        self.gives("adef", between, TEXT, fork, ABCDEFG, 0, 6)
        self.gives("", between, TEXT, fork, ABCDEFG, 6, 6)
        self.gives("def", taken_over, TEXT, fork, ABCDEFG, 3, 6)
        self.gives("bc", taken_over, TEXT, fork, ABCDEFG, 6, 3)
        self.gives("", taken_over, TEXT, fork, ABCDEFG, 6, 4)
        self.gives("ef", taken_over, TEXT, fork, ABCDEFG, 4, 6)
        self.gives("a", taken_over, TEXT, fork, ABCDEFG, 0, 1)
        self.gives("", taken_over, TEXT, fork, ABCDEFG, 5, 0)
        self.gives(("ab", "ade", "f"), changes_on, TEXT, fork, ABCDEFG, (2, 5, 6))
        self.gives(("ab", "ad"), changes_on, TEXT, samples.WIDE, ("a", "b", "c", "d"), (2, 4))
        self.gives("c", taken_over, TEXT, samples.WIDE, ("a", "b", "c", "d"), 2, 3)

    def test_between(self):
        for kind, history, changes in told_books():
            for one, other in version_pairs(history):
                if one == other or one in plain.elders(history, other):
                    want = plain.way(kind, history, changes, one, other)
                    self.gives(want, between, kind, history, changes, one, other)
                    both = then(kind, state_of(kind, history, changes, one), want)
                    self.gives(both, state_of, kind, history, changes, other)
                else:
                    self.refuses("other", between, kind, history, changes, one, other)

    def test_taken_over_both_ways(self):
        for kind, history, changes in told_books():
            for one, other in version_pairs(history):
                meet = plain.meet(history, one, other)
                there = plain.way(kind, history, changes, meet, other)
                self.gives(there, taken_over, kind, history, changes, one, other)
                back = plain.way(kind, history, changes, meet, one)
                self.gives(back, taken_over, kind, history, changes, other, one)

    def test_changes_on(self):
        for kind, history, changes in told_books():
            for versions in samples.subsets(history, 6)[:24]:
                want = tuple(
                    plain.way(kind, history, changes, plain.left_parent(history, versions, v), v)
                    for v in versions
                )
                self.gives(want, changes_on, kind, history, changes, versions)

    def test_changes_on_none_and_all(self):
        for kind, history, changes in told_books():
            self.gives((), changes_on, kind, history, changes, ())
            all_of_them = tuple(range(1, len(history) + 1))
            self.gives(changes, changes_on, kind, history, changes, all_of_them)

    def test_versions_that_are_left_on_keep_their_states(self):
        for kind, history, changes in list(told_books()) + list(large_books())[::2]:
            states = states_of(kind, history, changes)
            for versions in samples.subsets(history, 3)[:12]:
                kept = states_of(kind, left_on(history, versions), changes_on(kind, history, changes, versions))
                self.same(kept, tuple(states[version] for version in (0, *versions)))

    def test_limits(self):
        line, star = tuple(range(40)), (0,) * 40
        self.gives(40 * GREAT, state_of, ("sum",), line, (GREAT,) * 40, 40)
        self.gives(-GREAT, state_of, ("sum",), star, (-GREAT,) * 40, 40)
        self.gives("abcdefghij" * 160, state_of, TEXT, line, ("abcdefghij" * 4,) * 40, 40)
        self.gives("z" * 800, between, TEXT, line, ("a" * 40,) * 20 + ("z" * 40,) * 20, 20, 40)
        sets = tuple(tuple(range(k, 1600, 40)) for k in range(40))
        self.gives(tuple(range(1600)), state_of, ("set",), line, sets, 40)
        tables = tuple(tuple((key, -GREAT) for key in range(k, 1600, 40)) for k in range(40))
        want = tuple((key, -GREAT) for key in range(1600))
        self.gives(want, between, ("last",), line, tables, 0, 40)


class Refusals(Case):
    def calls(self, kind, history, changes):
        yield "version", state_of, (kind, history, changes, 0)
        yield None, states_of, (kind, history, changes)
        yield "one", between, (kind, history, changes, 0, 0)
        yield "one", taken_over, (kind, history, changes, 0, 0)
        yield "versions", changes_on, (kind, history, changes, ())

    def test_no_kind(self):
        for bad in samples.NO_KINDS:
            for _, function, arguments in self.calls(("sum",), (0, 1), (5, 7)):
                self.refuses("kind", function, bad, *arguments[1:])
        for _, function, arguments in self.calls(("sum",), (0, 1), (5, 7)):
            self.refuses("kind", function, ["sum"], (0, 1), None, *arguments[3:])
            self.refuses("kind", function, ("sums",), (0, 1), (5,), *[None for _ in arguments[3:]])

    def test_no_changes(self):
        for kind in samples.NINE:
            for history in ((), (0,), (0, 0, 1), samples.WIDE):
                changes = samples.some_changes(kind, len(history), samples.chance("wrong", kind, history))
                for _, function, arguments in self.calls(kind, history, changes):
                    for bad in wrong_changes(kind, changes):
                        self.refuses("changes", function, kind, history, bad, *arguments[3:])
                        self.refuses("changes", function, kind, history, bad, *[None for _ in arguments[3:]])

    def test_changes_of_another_kind(self):
        for kind in samples.NINE:
            for other in samples.NINE:
                bad = tuple(change for change in samples.changes_of(other) if not plain.is_change(kind, change))
                if bad:
                    changes = (plain.blank(kind), bad[-1])
                    for _, function, arguments in self.calls(kind, (0, 1), changes):
                        self.refuses("changes", function, *arguments)

    def test_forty_and_not_forty(self):
        line = tuple(range(40))
        for _, function, arguments in self.calls(("sum",), line, (1,) * 40):
            self.answer(function, *arguments)
            for many in (0, 1, 39, 41):
                self.refuses("changes", function, ("sum",), line, (1,) * many, *arguments[3:])

    def test_no_versions(self):
        for history in ((), (0,), samples.FORK, tuple(range(40))):
            changes = (1,) * len(history)
            for bad in samples.no_versions(history):
                told = (("sum",), history, changes)
                self.refuses("version", state_of, *told, bad)
                for function in (between, taken_over):
                    self.refuses("one", function, *told, bad, 0)
                    self.refuses("other", function, *told, 0, bad)
                    self.refuses("one", function, *told, bad, bad)
                    self.refuses("one", function, *told, bad, None)
            for bad in samples.no_sets(history):
                self.refuses("versions", changes_on, ("sum",), history, changes, bad)

    def test_between_where_one_does_not_lead_to_other(self):
        told = (("sum",), samples.FORK, (1,) * 7)
        for one, other in ((2, 1), (1, 0), (7, 4), (3, 4), (4, 3), (2, 7), (7, 2), (6, 5)):
            self.refuses("other", between, *told, one, other)
            self.answer(taken_over, *told, one, other)
