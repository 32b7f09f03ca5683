"""What is guaranteed of the whole program, at small histories, against all bases, stores, heights, sets."""
import functools
import itertools

from sincemarks.answers import answer_of
from sincemarks.asking import asked_all
from sincemarks.baseskinds import is_plan
from sincemarks.bestplans import best_for_writes, best_plan
from sincemarks.chains import chain_of, reads_by, store_by, writes_by
from sincemarks.counting import plans_many
from sincemarks.errors import Unserved
from sincemarks.exchanging import alike_within
from sincemarks.faults import is_right, manner_of
from sincemarks.grafts import grafted, line_of, replaced
from sincemarks.heights import bases_by, heights_of, open_row, records_of
from sincemarks.joining import joined, joined_all
from sincemarks.judging import judged, settled
from sincemarks.keepchecker import lets_keep
from sincemarks.keeping import keeps
from sincemarks.keeppapers import keep_paper
from sincemarks.leadchecker import lets_lead
from sincemarks.leading import led
from sincemarks.leadpapers import lead_paper
from sincemarks.leastcounts import sorted_least
from sincemarks.live import LiveMarks
from sincemarks.margins import margin_of
from sincemarks.mending import mend_order, mended
from sincemarks.partingchecker import lets_parting
from sincemarks.partings import parting_of
from sincemarks.pourings import poured_counts, pouring_of
from sincemarks.prices import price_table
from sincemarks.pricechecker import lets_prices
from sincemarks.rooms import rooms_of
from sincemarks.sheetchecker import lets_sheets
from sincemarks.sheetclasses import Filled
from sincemarks.sheetfilling import filled
from sincemarks.sheetpieces import made_sheet, pieces_of
from sincemarks.stagings import led_pouring, staging_counts
from sincemarks.states import states_of
from sincemarks.thinning import fitting, thinned
from sincemarks.tracks import track_of, turns_of
from sincemarks.walks import can_keep, plan_for, rows_of, top_of, walk_heights
from sincemarks.walls import rows_on, wall_in, walled
from sincemarks.weights import fits_level, forest_weight, weights_of
from tests import bound_samples, plain, plain_bounds, plain_levels, plain_lines, plain_sheets, plain_stores, samples, store_samples
from tests.cases import Case
from tests.plain_stores import later
from tests.test_stagings import some_stagings

TEXT, SUM, SET = ("text",), ("sum",), ("set",)
UP_TO_THREE = [history for many in range(4) for history in samples.all_histories(many)]
UP_TO_FOUR = [history for many in range(5) for history in samples.all_histories(many)]
FIVE = samples.all_histories(5)[::7]


@functools.lru_cache(maxsize=None)
def all_right(history, many):
    """All right stores of a history with so many sheets."""
    return [store for store in store_samples.all_stores(history, many) if plain_stores.fault(history, store) is None]


def right_stores():
    """All right stores of up to two changes with up to three sheets, and some of larger histories."""
    for history in [history for many in range(3) for history in samples.all_histories(many)]:
        for many in range(4 if len(history) < 2 else 3):
            for store in all_right(history, many):
                yield history, store
    for history in UP_TO_FOUR + list(FIVE):
        for store in store_samples.right_stores(history, 1):
            yield history, store


def writes(history, bases):
    return plain_stores.writes(history, plain_stores.based(history, bases))


def reads(bases):
    return tuple(len(plain_stores.chain(bases, version)) for version in range(len(bases) + 1))


def some_bounds(history):
    return list(bound_samples.some_bounds(history, 1))


class Plans(Case):
    """G1."""

    def test_each_right_store_leads_to_a_plan(self):
        for history, store in right_stores():
            bases = led(history, store)
            self.assertTrue(plain_stores.is_plan(history, bases), (history, store))
            self.assertTrue(all(a <= b for a, b in zip(writes(history, bases), plain_stores.writes(history, store))))
            self.assertTrue(all(a <= b for a, b in zip(reads(bases), plain_stores.reads(store))))
            self.assertTrue(plain_stores.is_plan(history, lets_lead(history, store, lead_paper(history, store))))

    def test_plans_are_the_bases_of_heights(self):
        for history in UP_TO_FOUR:
            by_heights = {bases_by(history, told) for told in itertools.product(later(history), repeat=len(history))}
            for bases in plain_stores.all_bases(history):
                self.same(is_plan(history, bases), bases in by_heights)
                heights = heights_of(history, bases)
                self.same(heights, tuple(max(reads(bases)) + 1 - many for many in reads(bases)[1:]))
                again = bases_by(history, heights)
                self.same(again == bases, is_plan(history, bases))
                self.assertTrue(all(a <= b for a, b in zip(writes(history, again), writes(history, bases))))
                self.assertTrue(all(a <= b for a, b in zip(reads(again), reads(bases))))


class Heights(Case):
    """G2."""

    def test_reads_and_writes(self):
        for history in UP_TO_FOUR:
            for heights in itertools.product(range(1, 4), repeat=len(history)):
                bases = bases_by(history, heights)
                for version in range(len(history) + 1):
                    records = records_of(history, heights, version)
                    self.same(records, chain_of(history, bases, version))
                    self.same(len(records), reads_by(history, bases)[version])
                    told = [heights[v - 1] for v in records]
                    self.assertTrue(all(a < b for a, b in zip(told, told[1:])))
                for change in later(history):
                    self.same(len(open_row(history, heights, change)), writes_by(history, bases)[change - 1])

    def test_the_walks_are_the_least(self):
        for history in UP_TO_THREE:
            for bounds in [told for told in some_bounds(history) if told[0] <= 5]:
                roof, pairs = bounds
                rows = rows_of(history, bounds)
                self.same(tuple(row[-1] for row in rows), walk_heights(history, bounds))
                choices = [range(roof + 1 - reach, roof + 2 - reach + len(history)) for _, reach in pairs]
                for heights in itertools.product(*choices):
                    if all(a <= width for a, (width, _) in zip(writes(history, bases_by(history, heights)), pairs)):
                        for version in later(history):
                            self.assertTrue(rows[version - 1] <= open_row(history, heights, version), (history, bounds))
                for version in later(history):
                    self.same(rows[version - 1], open_row(history, walk_heights(history, bounds), version))


class Bounds(Case):
    """G3 and G4."""

    def test_kept_exactly_if_some_bases_keep_them(self):
        for history in UP_TO_FOUR:
            counts = plain_bounds.counts_of_bases(history)
            for bounds in some_bounds(history):
                kept = plain_bounds.is_kept_by_some(counts, bounds)
                self.same(can_keep(history, bounds), kept)
                self.same(top_of(history, bounds) <= bounds[0], kept)
                self.same(wall_in(history, bounds) is None, kept)
                self.same(lets_keep(history, bounds, keep_paper(history, bounds)), kept)
                self.same(settled(history, bounds), ("plan", plan_for(history, bounds)) if kept else ("wall", wall_in(history, bounds)))
                if kept:
                    bases = plan_for(history, bounds)
                    self.assertIsNone(plain_bounds.first_broken(history, bounds, plain_stores.based(history, bases)))
                    self.same(keeps(history, bounds, store_by(history, bases)), True)
                    self.same(bases, bases_by(history, walk_heights(history, bounds)))
                    self.same(judged(history, bounds, bases), "plan")

    def test_no_right_store_does_better(self):
        for history, store in right_stores():
            for bounds in some_bounds(history)[::3]:
                if plain_bounds.first_broken(history, bounds, store) is None:
                    self.same([can_keep(history, bounds), judged(history, bounds, store)], [True, "store"])

    def test_raised(self):
        for history in UP_TO_THREE[1:] + list(FIVE):
            for bounds in some_bounds(history):
                least = min(reach for _, reach in bounds[1])
                margin = margin_of(history, bounds)
                self.same(margin, top_of(history, bounds) - bounds[0])
                for many in range(1 - least if least < 9 else -3, 4):
                    if bounds[0] + many <= 999:
                        self.same(can_keep(history, plain_bounds.raised(bounds, many)), many >= margin)
                self.assertGreaterEqual(least + margin, 1)

    def test_leaving_out_and_greater_bounds(self):
        for history in UP_TO_FOUR[::2] + list(FIVE[::3]):
            for bounds in some_bounds(history)[::2]:
                rows = rows_of(history, bounds)
                for versions in samples.subsets(history):
                    for version, row in rows_on(history, bounds, versions):
                        self.assertTrue(row <= rows[version - 1])
                for version in later(history):
                    width, reach = bounds[1][version - 1]
                    for pair in ((width + 1, reach), (width, min(bounds[0], reach + 1)), (999, bounds[0])):
                        if pair[0] <= 999:
                            wider = rows_of(history, plain_bounds.one_bound(bounds, version, *pair))
                            self.assertTrue(all(a <= b for a, b in zip(wider, rows)))

    def test_walls(self):
        for history in UP_TO_FOUR + list(FIVE):
            for bounds in some_bounds(history):
                sets = samples.subsets(history)
                walls = [versions for versions in sets if plain_bounds.is_walled(history, bounds, versions)]
                self.same([versions for versions in sets if walled(history, bounds, versions)], walls)
                self.same(can_keep(history, bounds), not walls)
                least = [wall for wall in walls if not any(set(other) < set(wall) for other in walls)]
                for wall in least:
                    self.least_wall(history, bounds, wall)
                if walls:
                    self.assertIn(wall_in(history, bounds), least)

    def least_wall(self, history, bounds, wall):
        roof, pairs = bounds
        rows = dict(rows_on(history, bounds, wall))
        self.same(rows[wall[0]], (roof + 1,))
        self.assertFalse([v for v in wall[1:] if max(rows[v]) > roof])
        self.assertTrue(all(wall[0] in plain.elders(history, v) for v in wall[1:]))
        for version in wall:
            below = [v for v in wall if plain.left_parent(history, wall, v) == version]
            self.assertLessEqual(len(below), pairs[version - 1][0])
        widths, reaches = [pairs[v - 1][0] for v in wall], [pairs[v - 1][1] for v in wall]
        self.assertGreaterEqual(len(wall), plain_bounds.capacity(min(widths), min(reaches)))
        self.assertLessEqual(len(wall), sum(max(widths) ** k for k in range(max(reaches) + 1)))

    def test_fitting_and_thinned(self):
        for history in UP_TO_FOUR[::3] + list(FIVE[::3]):
            changes = tuple("abcde"[:len(history)])
            for bounds in some_bounds(history)[::2]:
                versions = fitting(history, bounds)
                left, put, pairs = thinned(TEXT, history, changes, bounds, versions)
                self.same(can_keep(left, pairs), True)
                self.same(filled(TEXT, left, put, (0,) * len(left)),
                          tuple(plain.state(TEXT, history, changes, version) for version in versions))


class Weights(Case):
    """G5 and G6."""

    def test_levels(self):
        for history in UP_TO_FOUR + list(FIVE):
            for width, reach in itertools.product(range(1, 4), repeat=2):
                bounds = plain_bounds.level(history, width, reach)
                capacity = plain_bounds.capacity(width, reach)
                kept = plain_bounds.top(history, bounds) <= reach
                self.same([fits_level(history, width, reach), forest_weight(history, width) < capacity], [kept, kept])
                if len(history) < capacity:
                    self.assertTrue(kept)
                wall = wall_in(history, bounds)
                if wall is not None:
                    self.assertGreaterEqual(len(wall), capacity)
                    alone = weights_of(plain.left_on(history, wall), width)
                    below = [alone[k] for k, parent in enumerate(plain.left_on(history, wall)) if parent == 1]
                    self.same(joined_all(width, tuple(below)), capacity - 1)
                numbers = [plain_bounds.number_of(width, row) for row in rows_of(history, bounds)]
                self.same(weights_of(history, width), tuple(numbers))
                for version, weight in enumerate(weights_of(history, width), start=1):
                    branch = plain.branch(history, version)
                    ways = [len(set(plain.path(history, v)) & set(branch)) for v in branch]
                    self.assertTrue(max(ways) <= weight <= len(branch))

    def test_a_line_of_the_capacity(self):
        for width, reach in itertools.product(range(1, 5), repeat=2):
            capacity = plain_bounds.capacity(width, reach)
            if capacity <= 40:
                self.same([fits_level(line_of(capacity - 1), width, reach), fits_level(line_of(capacity), width, reach)], [True, False])

    def test_joining(self):
        for width in range(1, 4):
            for one, other in itertools.product(range(16), repeat=2):
                both = joined(width, one, other)
                self.same(both, joined(width, other, one))
                self.assertTrue(max(one, other) <= both <= one + other)
                self.assertLessEqual(both, joined(width, one + 1, other))
                if width == 1:
                    self.same(both, max(one, other))
                if one + other <= width:
                    self.same(both, one + other)
                for third in (0, 1, 5, 9):
                    self.same(joined(width, both, third), joined(width, one, joined(width, other, third)))

    def test_branches_of_the_same_weight(self):
        for history in UP_TO_FOUR[5:]:
            for width in (1, 2, 3):
                weights = weights_of(history, width)
                for version in later(history):
                    line = replaced(history, version, line_of(weights[version - 1]))
                    self.same(forest_weight(line, width), forest_weight(history, width))

    def test_partings(self):
        for one, other in itertools.product(UP_TO_THREE, repeat=2):
            for width in (1, 2, 3):
                parting = parting_of(width, one, other)
                self.same(parting is None, alike_within(width, one, other))
                if parting is not None:
                    many, reach = parting
                    fit = [fits_level(grafted(line_of(many), many, told), width, reach) for told in (one, other)]
                    self.same(sorted(fit), [False, True])
                    self.same(lets_parting(width, one, other, parting), fit[0])

    def test_rooms(self):
        for history in UP_TO_THREE:
            for width, reach in ((1, 2), (2, 1), (2, 2), (1, 3)):
                if plain_levels.is_kept(history, width, reach):
                    rooms = rooms_of(history, width, reach)
                    for version, (room, spare) in enumerate(rooms):
                        self.same(spare, plain_levels.spare(history, width, reach, version))
                        if version:
                            self.same(room, plain_levels.room(history, width, reach, version))
                        for other in UP_TO_THREE:
                            fits = forest_weight(other, width)
                            self.same(fits <= spare, plain_levels.is_kept(plain.hung(history, version, other), width, reach))
                            if version:
                                put = plain_levels.replaced(history, version, other)
                                self.same(fits <= room, plain_levels.is_kept(put, width, reach))


class Lines(Case):
    """G7."""

    def test_trees(self):
        for many in range(6):
            tracks = set()
            for bases in plain_lines.all_plans(many):
                tracks.add(track_of(bases))
                buds = turns_of(track_of(bases))
                self.same(tuple(rights for _, rights in buds), plain_lines.reads(bases))
                self.same(tuple(lefts for lefts, _ in buds), plain_lines.writes(bases) + (0,))
            self.same(len(tracks), plans_many(many))

    def test_no_right_store_of_a_line_has_less(self):
        lines = [(history, store) for history, store in right_stores() if history == plain_lines.line(len(history))]
        for history, store in lines:
            many = len(history)
            counts, told = plain_stores.writes(history, store), plain_stores.reads(store)[1:]
            if many:
                least = sorted_least(many, max(told))
                self.assertTrue(all(a <= b for a, b in zip(least, sorted(counts))))
                least = sorted_least(many, max(counts))
                self.assertTrue(all(a <= b for a, b in zip(least, sorted(told))))

    def test_on_the_paths_of_any_history(self):
        for history, store in right_stores():
            counts, told = plain_stores.writes(history, store), plain_stores.reads(store)
            for version in later(history):
                path = plain.path(history, version)
                least = sorted_least(len(path), max(told[v] for v in path))
                self.assertTrue(all(a <= b for a, b in zip(least, sorted(counts[v - 1] for v in path))))
                least = sorted_least(len(path), max(counts[v - 1] for v in path))
                self.assertTrue(all(a <= b for a, b in zip(least, sorted(told[v] for v in path))))

    def test_some_plan_has_just_these(self):
        for many in range(9):
            for bound in range(1, 5):
                self.same(tuple(sorted(plain_lines.writes(best_plan(many, bound)))), sorted_least(many, bound))
                self.same(tuple(sorted(plain_lines.reads(best_for_writes(many, bound))[1:])), sorted_least(many, bound))

    def test_prices_and_pourings(self):
        for bases in plain_lines.all_plans(5):
            self.same(poured_counts(pouring_of(bases)), plain_lines.writes(bases))
        for costs, asks in (((3, 1, 4), (1, 5, 9)), ((0, 0, 2), (6, 5, 3))):
            least = lets_prices(costs, asks, price_table(costs, asks))
            for store in list(store_samples.right_stores((0, 1, 2), 6)):
                told = zip(plain_stores.writes((0, 1, 2), store), costs)
                asked = zip(plain_stores.reads(store)[1:], asks)
                self.assertLessEqual(least, sum(a * b for a, b in [*told, *asked]))

    def test_stagings(self):
        for staging in some_stagings(7, 2):
            held, standing = staging_counts(staging)
            pouring = led_pouring(staging)
            self.assertTrue(all(a <= b for a, b in zip(poured_counts(pouring), held)))
            self.assertEqual(len(pouring), len(standing))


class Sheets(Case):
    """G8."""

    def test_what_right_stores_give(self):
        manners = set()
        for history, store in right_stores():
            many, manner = len(history), manner_of(history, store)
            manners.add(manner)
            letters = tuple("abcdefg"[:many])
            self.gives_states(history, store, SET, tuple((v,) for v in later(history)), True)
            # Numbers each of which is more than all others together, letters that are all unlike.
            self.gives_states(history, store, SUM, tuple(9 ** v for v in later(history)), manner != "any")
            self.gives_states(history, store, TEXT, letters, manner == "order")
        self.assertEqual(manners, {"any", "once", "order"})

    def gives_states(self, history, store, kind, changes, want):
        states = states_of(kind, history, changes)
        versions = range(len(history) + 1)
        found = tuple(plain_stores.answer(kind, changes, store, version) for version in versions)
        self.same(found == states, want)
        for version in versions:
            if plain_stores.is_served(kind, plain_stores.manner_at(history, store, version)):
                self.same(answer_of(kind, history, changes, store, version), states[version])
            else:
                with self.assertRaises(Unserved) as caught:
                    answer_of(kind, history, changes, store, version)
                self.same(caught.exception.version, version)

    def test_a_plan_gives_all(self):
        for history in UP_TO_FOUR:
            for bases in plain_sheets.all_plans(history):
                store = store_by(history, bases)
                self.assertTrue(is_right(history, store))
                for kind in samples.NINE[::2]:
                    changes = samples.some_changes(kind, len(history), samples.chance("gives all", kind, history))
                    states = states_of(kind, history, changes)
                    self.same(asked_all(kind, history, bases, filled(kind, history, changes, bases)), states)
                    self.same(tuple(answer_of(kind, history, changes, store, v) for v in range(len(states))), states)

    def test_putting_right(self):
        for history in UP_TO_FOUR:
            changes = tuple("abcd"[:len(history)])
            for bases in plain_sheets.all_plans(history):
                sheets = filled(TEXT, history, changes, bases)
                for version in later(history):
                    put, then = mended(TEXT, history, changes, bases, sheets, version, "new")
                    self.same(then, plain_sheets.filled(TEXT, history, put, bases))
                    holders = mend_order(history, bases, version)
                    self.same(tuple(v for v in later(history) if version in plain_stores.sheet(history, bases, v)), holders)
                    now = list(sheets)
                    for holder in holders:
                        parent, base = history[holder - 1], bases[holder - 1]
                        below = [v for v in plain_stores.chain(bases, parent) if base in plain.elders(history, v)]
                        self.same(pieces_of(history, bases, holder), tuple(sorted(below)))
                        now[holder - 1] = made_sheet(TEXT, history, put, bases, tuple(now), holder)
                    self.same(tuple(now), then)
                    self.same(lets_sheets(TEXT, history, put, bases, then), len(history))

    def test_objects_and_live_books(self):
        for history in UP_TO_FOUR[::2]:
            changes = tuple("abcd"[:len(history)])
            live = LiveMarks(TEXT, 4, 2, 4)
            if history and live.barred(("graft", 0, history, changes)) is None:
                live.do(("graft", 0, history, changes))
                book = Filled(TEXT, history, changes, live.bases_now())
                for version in later(history):
                    live.do(("mend", version, "new"))
                    self.same(book.put_right(version, "new"), live.wrote_now())
                    self.same(book.worths_now, live.sheets_now())
                    self.same([book(v) for v in range(len(history) + 1)], [live.state_now(v) for v in range(len(history) + 1)])
