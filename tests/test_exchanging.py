"""[48] Branches exchanged for lines, and histories that weigh the same; [G6]."""
from sincemarks.exchanging import alike_within, as_line
from sincemarks.grafts import grafted, replaced
from sincemarks.rooms import room_of, spare_of
from sincemarks.weights import fits_level, forest_weight, weight_of, weights_of
from tests import bound_samples, plain, plain_levels, samples
from tests.cases import Case

WIDTHS = (1, 2, 3, 40)


def other_weights(history, width, version):
    """The weights outside of the branch of a version, in the sequence of the versions."""
    branch = plain.branch(history, version)
    weights = weights_of(history, width)
    return [weights[v - 1] for v in range(1, len(history) + 1) if v not in branch]


class Lines(Case):
    def looked_at(self, history, width, version):
        line = plain_levels.line(plain_levels.weights(history, width)[version])
        got = self.answer(as_line, history, width, version)
        self.same(got, plain_levels.replaced(history, version, line))
        outside = other_weights(history, width, version)
        self.same(list(weights_of(got, width)[:len(outside)]), outside)
        self.same(forest_weight(got, width), forest_weight(history, width))

    def test_by_hand(self):
        self.gives((0, 1, 2, 3, 4), as_line, samples.FORK, 2, 1)
        self.gives((0, 1, 1, 3, 2, 5), as_line, samples.FORK[:3] + (3, 3, 1, 6), 1, 3)
        self.gives((0, 1), as_line, samples.WIDE, 1, 1)
        self.gives((0, 1, 2), as_line, samples.WIDE, 2, 1)
        self.gives(samples.LINE, as_line, samples.LINE, 2, 3)
        self.gives((0, 1, 1, 1), as_line, samples.WIDE, 2, 3)

    def test_any(self):
        for history in samples.SMALL[1:] + samples.LARGE[:3]:
            for width in WIDTHS:
                for version in range(1, len(history) + 1):
                    self.looked_at(history, width, version)

    def test_forty(self):
        for history in bound_samples.FORTY + samples.LARGE[5::4]:
            for width in (1, 2, 40):
                for version in (1, len(history) // 2, len(history)):
                    self.looked_at(history, width, version)

    def test_refusals(self):
        for history in (samples.WIDE, samples.FORK):
            self.refuses_each(as_line, (history, 2, 1), {
                "width": bound_samples.NO_NATURALS, "version": bound_samples.bad_versions(history),
            })


class Alike(Case):
    def test_by_hand(self):
        self.gives(True, alike_within, 2, (0, 0, 0), (0, 1))
        self.gives(False, alike_within, 3, (0, 0, 0), (0, 1))
        self.gives(True, alike_within, 1, (), ())
        self.gives(False, alike_within, 1, (), (0,))
        self.gives(True, alike_within, 1, (0,) * 40, (0,))

    def test_pairs_of_histories(self):
        histories = samples.SMALL[::2] + samples.LARGE[:3]
        for width in WIDTHS:
            forests = {history: plain_levels.forest(history, width) for history in histories}
            for one in histories:
                for other in histories:
                    self.same(alike_within(width, one, other), forests[one] == forests[other], (width, one, other))
        self.gives(forests[samples.LINE] == forests[samples.WIDE], alike_within, 40, samples.LINE, samples.WIDE)

    def test_hung_below_the_same_version_they_weigh_the_same(self):
        histories = samples.SMALL[3::3]
        hosts = samples.SMALL[4::7] + (samples.FORK,)
        for width in (1, 2, 3):
            for one in histories:
                for other in histories:
                    if alike_within(width, one, other):
                        for host in hosts:
                            version = (len(host) + len(one)) % (len(host) + 1)
                            both = [grafted(host, version, hung) for hung in (one, other)]
                            self.same(alike_within(width, *both), True)
                            weights = [weights_of(grown, width)[:len(host)] for grown in both]
                            self.same(*weights)

    def test_refusals(self):
        self.refuses_each(alike_within, (2, (0, 0), (0, 1)), {
            "width": bound_samples.NO_NATURALS, "one": samples.NO_HISTORIES, "other": samples.NO_HISTORIES,
        })


class Guarantees(Case):
    def test_a_branch_in_the_place_of_another_one(self):
        # It may stand there exactly if its weight is at most the room, a forest below if at most the spare.
        others = samples.SMALL[1::4] + ((0, 1, 1, 1, 1), (0, 1, 2, 2, 1, 5), tuple(range(8)))
        found = set()
        for history in samples.SMALL[2::6] + (samples.FORK, samples.WIDE):
            for width, reach in ((2, 2), (1, 4), (3, 2), (2, 3)):
                if not fits_level(history, width, reach):
                    continue
                for version in range(1, len(history) + 1, 2):
                    room, spare = (told(history, width, reach, version) for told in (room_of, spare_of))
                    for other in others:
                        weight = forest_weight(other, width)
                        kept = plain_levels.is_kept(replaced(history, version, other), width, reach)
                        self.same(kept, weight <= room, (history, width, reach, version, other))
                        found.add(kept)
                        kept = plain_levels.is_kept(grafted(history, version, other), width, reach)
                        self.same(kept, weight <= spare, (history, width, reach, version, other))
        self.assertEqual(found, {True, False})

    def test_branches_of_the_same_weight(self):
        for history in samples.SMALL[5::3]:
            for width in (1, 2, 3):
                for version in range(1, len(history) + 1):
                    for other in samples.SMALL[2::5]:
                        if forest_weight(other, width) == weight_of(history, width, version):
                            outside = other_weights(history, width, version)
                            got = weights_of(replaced(history, version, other), width)
                            self.same(list(got[:len(outside)]), outside)
