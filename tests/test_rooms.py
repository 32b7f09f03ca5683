"""[50] Rooms and spares."""
from sincemarks.choosing import capacity
from sincemarks.joining import joined_all
from sincemarks.rooms import room_of, rooms_of, spare_of
from sincemarks.walls import wall_in
from sincemarks.weights import weights_of
from tests import bound_samples, plain, plain_bounds, plain_levels, samples
from tests.cases import Case

LEVELS = ((1, 1), (2, 1), (1, 2), (1, 4), (2, 2), (3, 2), (2, 3), (4, 2), (5, 1))


class Rooms(Case):
    def looked_at(self, history, width, reach):
        """Against building the histories with longer and longer lines."""
        want = tuple(
            (plain_levels.room(history, width, reach, v) if v else None, plain_levels.spare(history, width, reach, v))
            for v in range(len(history) + 1)
        )
        self.gives(want, rooms_of, history, width, reach)
        for version, (room, spare) in enumerate(want):
            self.gives(spare, spare_of, history, width, reach, version)
            if version:
                self.gives(room, room_of, history, width, reach, version)

    def test_by_hand(self):
        self.gives(((None, 5), (5, 4), (4, 2), (3, 2)), rooms_of, (0, 1, 2), 2, 2)
        self.gives(4, room_of, samples.FORK, 2, 2, 4)
        self.gives(2, spare_of, samples.FORK, 2, 2, 1)
        self.gives(((None, 5),), rooms_of, (), 2, 2)
        self.gives(5, spare_of, (), 2, 2, 0)
        self.gives(((None, 1), (1, 0)), rooms_of, (0,), 1, 1)

    def test_small_histories(self):
        for history in samples.SMALL + (samples.LINE, samples.FORK, (0, 0, 1, 1, 2), (0, 1, 1, 1, 4)):
            for width, reach in LEVELS:
                if plain_levels.is_kept(history, width, reach):
                    self.looked_at(history, width, reach)

    def test_consequences(self):
        # For great levels, where no lines are built: the greatest number that, joined, stays below.
        for history in samples.SMALL[5::5] + samples.LARGE[:4] + bound_samples.FORTY[1:3] + samples.LARGE[5::4]:
            for width, reach in ((2, 60), (3, 9), (7, 30), (40, 99), (40, 1), (1, 40)):
                if not plain_levels.is_kept(history, width, reach):
                    continue
                pairs = self.answer(rooms_of, history, width, reach)
                weights = weights_of(history, width)
                most = capacity(width, reach) - 1
                self.same(pairs[0], (None, most))
                for version in sorted({1, 2, len(history) // 2, len(history)}):
                    parent = history[version - 1]
                    others = [weights[v - 1] for v in plain.children(history, parent) if v != version]
                    limit = most + 1 if parent == 0 else pairs[parent][0]
                    room, spare = pairs[version]
                    self.same(joined_all(width, (room, *others)) < limit, True)
                    self.same(joined_all(width, (room + 1, *others)) < limit, False)
                    if parent == 0:
                        self.same(room, most)
                    below = [weights[v - 1] for v in plain.children(history, version)]
                    self.same(joined_all(width, (spare, *below)) < room, True)
                    self.same(joined_all(width, (spare + 1, *below)) < room, False)
                    self.gives(room, room_of, history, width, reach, version)
                    self.gives(spare, spare_of, history, width, reach, version)

    def test_forty(self):
        for history in bound_samples.FORTY:
            pairs = self.answer(rooms_of, history, 40, 99)
            self.same(len(pairs), 41)
            self.assertTrue(all(room >= weight for (room, _), weight in zip(pairs[1:], weights_of(history, 40))))

    def test_what_cannot_be_kept(self):
        line = tuple(range(6))
        self.fails("Unkept", ((1, 2, 3, 4, 5, 6),), room_of, line, 2, 2, 1)
        found = 0
        for history in samples.SMALL + samples.LARGE + bound_samples.FORTY:
            for width, reach in LEVELS[::2]:
                wall = wall_in(history, plain_bounds.level(history, width, reach))
                if wall is not None:
                    found += 1
                    self.fails("Unkept", (wall,), rooms_of, history, width, reach)
                    self.fails("Unkept", (wall,), room_of, history, width, reach, 1)
                    self.fails("Unkept", (wall,), spare_of, history, width, reach, 0)
                    self.fails("Unkept", (wall,), spare_of, history, width, reach, len(history))
        self.assertGreater(found, 30)

    def test_version_0(self):
        for history in ((), samples.WIDE):
            self.gives(5, spare_of, history, 2, 2, 0)
            self.refuses("version", room_of, history, 2, 2, 0)

    def test_refusals(self):
        bad = bound_samples.NO_NATURALS
        # A line that can be kept, and one that cannot: refusals come first.
        for history, width, reach in ((samples.WIDE, 2, 2), (samples.FORK, 3, 3)):
            versions = samples.no_versions(history)
            self.refuses_each(rooms_of, (history, width, reach), {"width": bad, "reach": bad})
            wrongs = {"width": bad, "reach": bad, "version": versions}
            self.refuses_each(spare_of, (history, width, reach, 0), wrongs)
            self.refuses_each(room_of, (history, width, reach, 1), {**wrongs, "version": versions + (0,)})
        line = tuple(range(6))
        for wrong in samples.no_versions(line):
            self.refuses("version", room_of, line, 2, 2, wrong)
            self.refuses("version", spare_of, line, 2, 2, wrong)
        self.refuses("version", room_of, line, 2, 2, 0)
        for wrong in bad:
            self.refuses("width", rooms_of, line, wrong, 2)
            self.refuses("reach", rooms_of, line, 2, wrong)
            self.refuses("reach", room_of, line, 2, wrong, 1)
            self.refuses("width", spare_of, line, wrong, wrong, 7)
