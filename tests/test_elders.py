"""[18] Elders, paths, meets, depths; [19] children, branches, leaves, lines."""
from sincemarks.branches import branch_of, children_of, is_line, leaves_of
from sincemarks.elders import depth_in, depth_of, elders_of, is_elder, many_of, meet_of, parent_of, path_of
from tests import plain, samples
from tests.cases import Case


class Elders(Case):
    def test_one_version(self):
        for history in samples.HISTORIES:
            for version in range(len(history) + 1):
                elders = plain.elders(history, version)
                self.gives(elders, elders_of, history, version)
                self.gives(plain.path(history, version), path_of, history, version)
                self.gives(len(elders), depth_of, history, version)
                if version:
                    self.gives(history[version - 1], parent_of, history, version)

    def test_two_versions(self):
        for history in samples.SMALL + samples.LARGE[:3] + samples.LARGE[6:9] + samples.LARGE[-3:]:
            for one in range(len(history) + 1):
                for other in range(len(history) + 1):
                    elder = one in plain.elders(history, other)
                    self.gives(elder, is_elder, history, one, other)
                    self.gives(plain.meet(history, one, other), meet_of, history, one, other)

    def test_whole_histories(self):
        for history in samples.HISTORIES:
            self.gives(len(history), many_of, history)
            depths = [len(plain.path(history, version)) for version in range(len(history) + 1)]
            self.gives(max(depths), depth_in, history)

    def test_by_hand(self):
        fork = samples.FORK
        self.gives(7, many_of, fork)
        self.gives((6, 5, 4, 1, 0), elders_of, fork, 7)
        self.gives((1, 4, 5, 6, 7), path_of, fork, 7)
        self.gives((), elders_of, fork, 0)
        self.gives((), path_of, fork, 0)
        self.gives(0, depth_of, fork, 0)
        self.gives((0,), elders_of, fork, 1)
        self.gives(1, meet_of, fork, 3, 7)
        self.gives(5, meet_of, fork, 5, 7)
        self.gives(5, meet_of, fork, 7, 5)
        self.gives(3, meet_of, fork, 3, 3)
        self.gives(0, meet_of, fork, 0, 6)
        self.gives(True, is_elder, fork, 4, 7)
        self.gives(True, is_elder, fork, 0, 1)
        self.gives(False, is_elder, fork, 7, 4)
        self.gives(False, is_elder, fork, 3, 7)
        self.gives(False, is_elder, fork, 4, 4)
        self.gives(False, is_elder, fork, 0, 0)
        self.gives(5, depth_in, fork)
        self.gives(4, parent_of, fork, 5)
        self.gives(1, parent_of, fork, 4)
        self.gives(0, parent_of, fork, 1)

    def test_edges(self):
        self.gives(0, many_of, ())
        self.gives((), elders_of, (), 0)
        self.gives((), path_of, (), 0)
        self.gives(0, depth_in, ())
        self.gives(0, meet_of, (), 0, 0)
        self.gives(False, is_elder, (), 0, 0)
        line, star = tuple(range(40)), (0,) * 40
        self.gives(tuple(range(39, -1, -1)), elders_of, line, 40)
        self.gives(tuple(range(1, 41)), path_of, line, 40)
        self.gives(40, depth_in, line)
        self.gives(40, depth_of, line, 40)
        self.gives(1, depth_in, star)
        self.gives((40,), path_of, star, 40)
        self.gives(0, meet_of, star, 39, 40)

    def test_refusals(self):
        for history in ((), (0,), samples.LINE, samples.FORK, samples.WIDE, samples.LARGE[3], samples.LARGE[4]):
            for bad in samples.no_versions(history):
                for function in (parent_of, elders_of, path_of, depth_of):
                    self.refuses("version", function, history, bad)
                for function in (is_elder, meet_of):
                    self.refuses("one", function, history, bad, 0)
                    self.refuses("other", function, history, 0, bad)
                    self.refuses("other", function, history, len(history), bad)
                    self.refuses("one", function, history, bad, bad)
                    self.refuses("one", function, history, bad, None)
            self.refuses("version", parent_of, history, 0)


class Branches(Case):
    def test_one_version(self):
        for history in samples.HISTORIES:
            for version in range(len(history) + 1):
                self.gives(plain.children(history, version), children_of, history, version)
                self.gives(plain.branch(history, version), branch_of, history, version)

    def test_whole_histories(self):
        for history in samples.HISTORIES:
            versions = range(len(history) + 1)
            leaves = tuple(version for version in versions if plain.branch(history, version) == (version,))
            self.gives(leaves, leaves_of, history)
            line = all(parent == version - 1 for version, parent in plain.parents(history).items())
            self.gives(line, is_line, history)

    def test_by_hand(self):
        fork, wide = samples.FORK, samples.WIDE
        self.gives((2, 4), children_of, fork, 1)
        self.gives((1,), children_of, fork, 0)
        self.gives((), children_of, fork, 3)
        self.gives((2, 3, 4), children_of, wide, 1)
        self.gives((4, 5, 6, 7), branch_of, fork, 4)
        self.gives((2, 3), branch_of, fork, 2)
        self.gives((0, 1, 2, 3, 4, 5, 6, 7), branch_of, fork, 0)
        self.gives((7,), branch_of, fork, 7)
        self.gives((1, 3, 5), branch_of, (0, 0, 1, 2, 3), 1)
        self.gives((3, 7), leaves_of, fork)
        self.gives((2, 3, 4), leaves_of, wide)
        self.gives(False, is_line, fork)
        self.gives(True, is_line, samples.LINE)

    def test_edges(self):
        self.gives((), children_of, (), 0)
        self.gives((0,), branch_of, (), 0)
        self.gives((0,), leaves_of, ())
        self.gives(True, is_line, ())
        self.gives(True, is_line, (0,))
        self.gives(False, is_line, (0, 0))
        self.gives(True, is_line, tuple(range(40)))
        self.gives(False, is_line, tuple(range(39)) + (38,))
        self.gives(False, is_line, (0, 0) + tuple(range(2, 40)))
        self.gives((40,), leaves_of, tuple(range(40)))
        self.gives(tuple(range(1, 41)), leaves_of, (0,) * 40)
        self.gives(tuple(range(1, 41)), children_of, (0,) * 40, 0)

    def test_refusals(self):
        for history in ((), (0,), samples.LINE, samples.FORK, samples.LARGE[3], samples.LARGE[4]):
            for bad in samples.no_versions(history):
                self.refuses("version", children_of, history, bad)
                self.refuses("version", branch_of, history, bad)
