"""[20] Versions left on and out, branches alone, grafts."""
from sincemarks.branches import branch_of, is_line
from sincemarks.cuttings import branch_alone, left_on, left_out
from sincemarks.elders import depth_in
from sincemarks.grafts import beside, grafted, line_of, replaced
from tests import plain, samples
from tests.cases import Case


class Cuttings(Case):
    def test_sets_of_versions(self):
        for history in samples.HISTORIES:
            for versions in samples.subsets(history):
                self.gives(plain.left_on(history, versions), left_on, history, versions)

    def test_none_and_all(self):
        for history in samples.HISTORIES:
            self.gives((), left_on, history, ())
            self.gives(history, left_on, history, tuple(range(1, len(history) + 1)))

    def test_one_left_out_and_branch_alone(self):
        for history in samples.HISTORIES:
            for version in range(1, len(history) + 1):
                others = tuple(v for v in range(1, len(history) + 1) if v != version)
                self.gives(plain.left_on(history, others), left_out, history, version)
                branch = plain.branch(history, version)
                self.gives(plain.left_on(history, branch), branch_alone, history, version)

    def test_by_hand(self):
        fork = samples.FORK
        self.gives((0, 0, 2), left_on, fork, (2, 5, 6))
        self.gives((0, 1, 1), left_on, fork, (1, 3, 7))
        self.gives((0, 0), left_on, fork, (3, 7))
        self.gives((0, 1, 0, 3, 4, 5), left_out, fork, 1)
        self.gives((0, 1, 2, 1, 4, 5), left_out, fork, 7)
        self.gives((0, 1, 1, 3, 4, 5), left_out, fork, 2)
        self.gives((0, 1, 2, 3), branch_alone, fork, 4)
        self.gives((0, 1), branch_alone, fork, 2)
        self.gives((0,), branch_alone, fork, 7)
        self.gives(fork, branch_alone, fork, 1)
        self.gives((0, 1, 2), branch_alone, (0, 0, 1, 2, 3), 1)
        self.gives((), left_out, (0,), 1)
        self.gives((0, 0, 0), left_out, samples.WIDE, 1)

    def test_left_on_twice_is_left_on_once(self):
        for history in samples.LARGE:
            for versions in samples.subsets(history, 6):
                cut = left_on(history, versions)
                for places in samples.subsets(cut, 2):
                    once = tuple(versions[place - 1] for place in places)
                    self.same(left_on(cut, places), left_on(history, once))

    def test_refusals(self):
        for history in ((), (0,), samples.LINE, samples.FORK, samples.LARGE[3], samples.LARGE[4]):
            for bad in samples.no_sets(history):
                self.refuses("versions", left_on, history, bad)
            for bad in samples.no_versions(history) + (0,):
                self.refuses("version", left_out, history, bad)
                self.refuses("version", branch_alone, history, bad)
        many = tuple(range(40))
        for bad in ((*range(1, 41), 41), (0, *range(1, 41)), (*range(1, 41), 40), (2, 1, *range(3, 41)), list(range(1, 41))):
            self.refuses("versions", left_on, many, bad)


class Grafts(Case):
    def test_lines(self):
        for many in range(42):
            self.gives(tuple(range(many)), line_of, many)
            self.assertTrue(is_line(line_of(many)))
        self.gives((), line_of, 0)
        self.gives((0,), line_of, 1)
        self.same(len(line_of(40)), 40)

    def test_no_lines(self):
        for bad in samples.ODD + samples.STRINGS + (-1, -2, -40, -samples.GREAT):
            self.refuses("many", line_of, bad)

    def test_pairs_of_histories(self):
        for one in samples.SMALL:
            for other in samples.SMALL:
                self.gives(plain.hung(one, 0, other), beside, one, other)

    def test_grafts(self):
        others = samples.SMALL[::3] + (samples.LINE, samples.FORK, samples.WIDE)
        for history in samples.SMALL + samples.LARGE[:3] + samples.LARGE[12:15]:
            for version in range(len(history) + 1):
                for other in others:
                    self.gives(plain.hung(history, version, other), grafted, history, version, other)

    def test_replaced(self):
        others = samples.SMALL[::4] + (samples.LINE, samples.FORK)
        for history in samples.SMALL + samples.LARGE[:3] + samples.LARGE[12:15]:
            for version in range(1, len(history) + 1):
                branch = plain.branch(history, version)
                rest = tuple(v for v in range(1, len(history) + 1) if v not in branch)
                for other in others:
                    want = plain.hung(plain.left_on(history, rest), history[version - 1], other)
                    self.gives(want, replaced, history, version, other)

    def test_by_hand(self):
        fork = samples.FORK
        self.gives((0, 1, 2, 1, 1), replaced, fork, 4, (0, 0))
        self.gives((0, 1, 2, 3, 4, 1, 6), replaced, fork, 2, (0, 1))
        self.gives((0, 1, 2, 3, 4), replaced, fork, 2, ())
        self.gives((0, 0), replaced, fork, 1, (0, 0))
        self.gives((0, 1, 1, 3), grafted, (0, 1), 1, (0, 1))
        self.gives((0, 1, 2, 2), grafted, (0, 1), 2, (0, 0))
        self.gives((0, 1, 0, 3, 3), beside, (0, 1), (0, 1, 1))
        self.gives((0, 1, 1, 0, 4), beside, (0, 1, 1), (0, 1))

    def test_nothing_hung(self):
        for history in samples.HISTORIES:
            self.gives(history, beside, history, ())
            self.gives(history, beside, (), history)
            self.gives(history, grafted, (), 0, history)
            for version in range(len(history) + 1):
                self.gives(history, grafted, history, version, ())
            for version in range(1, len(history) + 1):
                branch = plain.branch(history, version)
                rest = tuple(v for v in range(1, len(history) + 1) if v not in branch)
                self.gives(plain.left_on(history, rest), replaced, history, version, ())

    def test_branches_replaced_by_themselves(self):
        for history in samples.HISTORIES:
            for version in range(1, len(history) + 1):
                own = branch_alone(history, version)
                # The branch comes back behind all others, so the order of the versions may change.
                branch = branch_of(history, version)
                rest = tuple(v for v in range(1, len(history) + 1) if v not in branch)
                order = (0,) + rest + branch
                new_number = {old: new for new, old in enumerate(order)}
                want = tuple(new_number[history[old - 1]] for old in order[1:])
                self.gives(want, replaced, history, version, own)
                self.same(depth_in(replaced(history, version, own)), depth_in(history))
                if branch[-1] == len(history) and len(branch) == branch[-1] - branch[0] + 1:
                    self.gives(history, replaced, history, version, own)

    def test_up_to_forty(self):
        twenty = tuple(range(20))
        self.gives(tuple(range(40)), grafted, twenty, 20, twenty)
        self.gives(twenty + (0,) + tuple(range(21, 40)), beside, twenty, twenty)
        self.gives((0,) * 40, beside, (0,) * 20, (0,) * 20)
        self.gives(tuple(range(40)), replaced, tuple(range(40)), 1, tuple(range(40)))
        self.gives(tuple(range(40)), replaced, tuple(range(40)), 40, (0,))

    def test_refusals(self):
        for history in ((), (0,), samples.LINE, samples.FORK, samples.LARGE[3]):
            for bad in samples.no_versions(history):
                self.refuses("version", grafted, history, bad, ())
                self.refuses("version", replaced, history, bad, ())
                self.refuses("version", grafted, history, bad, None)
                self.refuses("version", replaced, history, bad, [0])
            self.refuses("version", replaced, history, 0, ())
            for bad in samples.NO_HISTORIES:
                self.refuses("other", grafted, history, 0, bad)
                self.refuses("other", grafted, history, len(history), bad)
                self.refuses("other", beside, history, bad)
                self.refuses("one", beside, bad, history)
                self.refuses("one", beside, bad, bad)
                self.refuses("one", beside, bad, None)
                if history:
                    self.refuses("other", replaced, history, 1, bad)
                    self.refuses("other", replaced, history, len(history), bad)
