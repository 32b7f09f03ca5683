"""[47] The levels at which histories can be kept."""
from sincemarks.elders import depth_in
from sincemarks.pairs import least_reach, least_width, pairs_of
from sincemarks.walks import can_keep, top_of
from tests import bound_samples, plain_bounds, plain_levels, samples
from tests.cases import Case


class Pairs(Case):
    def first(self, serves):
        value = 1
        while not serves(value):
            value += 1
        return value

    def test_by_hand(self):
        self.gives(7, least_width, samples.FORK, 1)
        self.gives(2, least_width, samples.FORK, 2)
        self.gives(2, least_reach, samples.FORK, 2)
        self.gives(5, least_reach, samples.FORK, 1)
        self.gives(((1, 2), (2, 2), (3, 2), (4, 1)), pairs_of, samples.WIDE)
        self.gives(((1, 5), (2, 2), (3, 2), (4, 2), (5, 1)), pairs_of, samples.LINE)
        self.gives(((1, 1),), pairs_of, (0,) * 1)
        self.gives(((1, 1),), pairs_of, (0, 0, 0, 0))

    def test_no_changes(self):
        self.gives(((1, 0),), pairs_of, ())
        for value in (1, 2, 40):
            self.gives(0, least_reach, (), value)
            self.gives(1, least_width, (), value)

    def test_against_each_value(self):
        for history in samples.SMALL[1:] + samples.LARGE[:3]:
            for value in range(1, 9):
                reach = self.first(lambda k: plain_levels.is_kept(history, value, k))
                self.gives(reach, least_reach, history, value)
                width = self.first(lambda k: plain_levels.is_kept(history, k, value))
                self.gives(width, least_width, history, value)

    def test_large_against_each_value(self):
        for history in samples.LARGE[3:] + bound_samples.FORTY:
            for value in (1, 2, 3, 40):
                reach = self.first(lambda k: can_keep(history, plain_bounds.level(history, value, k)))
                self.gives(reach, least_reach, history, value)
                width = self.first(lambda k: can_keep(history, plain_bounds.level(history, k, value)))
                self.gives(width, least_width, history, value)
            self.gives(1, least_width, history, 99)

    def test_pairs_up_to_the_first_with_one(self):
        for history in samples.SMALL[1:] + samples.LARGE[:3]:
            want = []
            while not want or want[-1][1] > 1:
                width = len(want) + 1
                want.append((width, self.first(lambda k: plain_levels.is_kept(history, width, k))))
            self.gives(tuple(want), pairs_of, history)

    def test_large_pairs(self):
        for history in samples.LARGE[3:] + bound_samples.FORTY:
            pairs = self.answer(pairs_of, history)
            self.same([width for width, _ in pairs], list(range(1, len(pairs) + 1)))
            self.same([reach for _, reach in pairs], [least_reach(history, width) for width, _ in pairs])
            self.assertTrue(all(reach > 1 for _, reach in pairs[:-1]))
            self.same(pairs[-1], (least_width(history, 1), 1))
            # The least reach never rises with the width.
            self.same([reach for _, reach in pairs], sorted((reach for _, reach in pairs), reverse=True))

    def test_the_least_reach_is_the_top_of_the_walk(self):
        for history in samples.SMALL[1:] + samples.LARGE:
            for width in (1, 2, 3, 40):
                reach = least_reach(history, width)
                self.same(top_of(history, plain_bounds.level(history, width, reach)), reach)
            self.same(least_reach(history, 1), depth_in(history))

    def test_refusals(self):
        for history in ((), samples.FORK):
            self.refuses_each(least_reach, (history, 2), {"width": bound_samples.NO_NATURALS})
            self.refuses_each(least_width, (history, 2), {"reach": bound_samples.NO_NATURALS})
