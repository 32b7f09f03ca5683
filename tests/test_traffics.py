"""Traffic of line plans, tables of prices, and their checker."""
import functools
import itertools

from sincemarks.pricechecker import lets_prices
from sincemarks.prices import price_table
from sincemarks.traffics import cheapest_plan, least_traffic, traffic_of
from tests import line_samples, plain_lines, samples, store_samples
from tests.cases import Case
from tests.samples import GREAT

NO_COSTS = (
    None, True, 0, 3, "", "3", [], [3, 1, 2], (3, -1, 2), (True, 1, 2), (1, False, 2), (None, 1, 2), ("3", 1, 2), ((3,), 1, 2),
    (-GREAT, 0, 0), {},
)


def some_numbers(many, source, most):
    return tuple(source.choice((0, 1, source.randint(0, most))) for _ in range(many))


def some_lines(most=6, times=4):
    """Costs and asks of lines of up to so many changes, noughts and great ones among them."""
    for many in range(most + 1):
        source = samples.chance("traffic", many)
        for greatest in (1, 3, 9, GREAT)[:times]:
            for _ in range(3):
                yield some_numbers(many, source, greatest), some_numbers(many, source, greatest)
        yield (0,) * many, (0,) * many
        yield (0,) * many, tuple(range(many))
        yield tuple(range(many)), (0,) * many
        yield (GREAT,) * many, (GREAT,) * many


def traffic(bases, costs, asks):
    total = sum(many * cost for many, cost in zip(plain_lines.writes(bases), costs))
    return total + sum(many * ask for many, ask in zip(plain_lines.reads(bases)[1:], asks))


def prices(costs, asks):
    """The prices by (i, j), by their definition."""
    @functools.lru_cache(maxsize=None)
    def price(i, j):
        if i == j:
            return 0
        return min(
            price(i, m - 1) + price(m, j) + sum(costs[change - 1] for change in range(i + 1, m + 1))
            + sum(asks[version - 1] for version in range(m, j + 1))
            for m in range(i + 1, j + 1)
        )
    many = len(costs)
    return tuple(tuple(price(i, j) for j in range(i, many + 1)) for i in range(many + 1))


def fault(costs, asks, thing):
    """The word and place that the checker is to give, None for a table that it accepts."""
    many = len(costs)
    if type(thing) is not tuple or len(thing) != many + 1:
        return "shape", -1
    for i, told in enumerate(thing):
        if type(told) is not tuple or len(told) != many + 1 - i or not all(type(price) is int for price in told):
            return "list", i
        if told[0] > 0:
            return "start", i
    for i, j in itertools.combinations(range(many + 1), 2):
        for m in range(i + 1, j + 1):
            total = thing[i][m - 1 - i] + thing[m][j - m] + sum(costs[i:m]) + sum(asks[m - 1:j])
            if thing[i][j - i] > total:
                return "price", (i, j)
    return None


class Traffics(Case):
    def test_by_hand(self):
        self.gives(15, traffic_of, (0, 1), (3, 1), (1, 5))
        self.gives(13, traffic_of, (0, 0), (3, 1), (1, 5))
        self.gives(13, least_traffic, (3, 1), (1, 5))
        self.gives((0, 0), cheapest_plan, (3, 1), (1, 5))
        self.gives((0, 1), cheapest_plan, (9, 1), (1, 5))
        self.gives(0, traffic_of, (), (), ())
        self.gives(0, least_traffic, (), ())
        self.gives((), cheapest_plan, (), ())
        self.gives(5, least_traffic, (2,), (3,))

    def test_traffic_of(self):
        for costs, asks in some_lines(5):
            for bases in plain_lines.all_plans(len(costs)):
                self.gives(traffic(bases, costs, asks), traffic_of, bases, costs, asks)

    def test_the_least_of_all_plans(self):
        for costs, asks in some_lines(6):
            least = min(traffic(bases, costs, asks) for bases in plain_lines.all_plans(len(costs)))
            self.gives(least, least_traffic, costs, asks)
            plan = self.answer(cheapest_plan, costs, asks)
            self.assertTrue(plain_lines.is_line_plan(plan), (costs, asks))
            self.assertEqual(len(plan), len(costs))
            self.assertEqual(traffic(plan, costs, asks), least)

    def test_no_right_store_has_less(self):
        for costs, asks in some_lines(4, 2):
            line = tuple(range(len(costs)))
            least = least_traffic(costs, asks)
            for sheets, read in store_samples.right_stores(line, 3):
                writes = [sum(change + 1 in sheet for sheet in sheets) for change in line]
                total = sum(a * b for a, b in zip(writes, costs)) + sum(len(a) * b for a, b in zip(read[1:], asks))
                self.assertGreaterEqual(total, least)

    def test_sixteen(self):
        for greatest in (9, GREAT):
            source = samples.chance("sixteen", greatest)
            costs, asks = some_numbers(16, source, greatest), some_numbers(16, source, greatest)
            plan = self.answer(cheapest_plan, costs, asks)
            self.assertEqual(traffic(plan, costs, asks), prices(costs, asks)[0][16])
            self.gives(prices(costs, asks)[0][16], least_traffic, costs, asks)
            self.gives(traffic(plan, costs, asks), traffic_of, plan, costs, asks)

    def test_how_many_costs_and_asks(self):
        for bases in line_samples.plans(4, 2, 9):
            good = (1,) * len(bases)
            self.answer(traffic_of, bases, good, good)
            self.refuses("costs", traffic_of, bases, good + (1,), good)
            self.refuses("costs", traffic_of, bases, good + (1,), good + (1,))
            self.refuses("asks", traffic_of, bases, good, good + (1,))
            if bases:
                self.refuses("costs", traffic_of, bases, good[1:], good[1:])
                self.refuses("asks", traffic_of, bases, good, good[1:])
                self.refuses("asks", least_traffic, good, good[1:])
                self.refuses("asks", cheapest_plan, good, good[1:])
                self.refuses("asks", price_table, good, good[1:])

    def test_refusals(self):
        self.refuses_each(traffic_of, ((0, 1, 0), (3, 1, 2), (1, 5, 0)), {
            "bases": line_samples.NO_PLANS, "costs": NO_COSTS + ((3, 1),), "asks": NO_COSTS + ((1, 5), (1, 5, 0, 0)),
        })
        for function in (least_traffic, cheapest_plan, price_table):
            self.refuses_each(function, ((3, 1, 2), (1, 5, 0)), {
                "costs": NO_COSTS, "asks": NO_COSTS + ((1, 5), (1, 5, 0, 0), ()),
            })
            self.refuses("asks", function, (), (1,))
            self.refuses("asks", function, (1,), ())


class Prices(Case):
    def test_by_hand(self):
        self.gives(((0, 4, 13), (0, 6), (0,)), price_table, (3, 1), (1, 5))
        self.gives(((0,),), price_table, (), ())
        self.gives(((0, 7), (0,)), price_table, (3,), (4,))

    def test_by_their_definition(self):
        for costs, asks in some_lines(7):
            self.gives(prices(costs, asks), price_table, costs, asks)

    def test_a_table_lets_its_prices(self):
        for costs, asks in some_lines(7):
            self.gives(least_traffic(costs, asks), lets_prices, costs, asks, price_table(costs, asks))

    def test_sixteen(self):
        costs, asks = (GREAT, 0, 1, 7) * 4, (0, GREAT, 5, 2) * 4
        table = self.answer(price_table, costs, asks)
        self.same(table, prices(costs, asks))
        self.gives(table[0][16], lets_prices, costs, asks, table)


class Checker(Case):
    def looked_at(self, costs, asks, thing):
        wrong = fault(costs, asks, thing)
        if wrong is None:
            self.gives(thing[0][len(costs)], lets_prices, costs, asks, thing)
        else:
            self.fails("InvalidPaper", wrong, lets_prices, costs, asks, thing)

    def test_by_hand(self):
        self.gives(12, lets_prices, (3, 1), (1, 5), ((0, 4, 12), (0, 5), (-1,)))
        self.gives(-7, lets_prices, (), (), ((-7,),))
        self.gives(0, lets_prices, (), (), ((0,),))
        self.fails("InvalidPaper", ("start", 0), lets_prices, (), (), ((1,),))
        self.fails("InvalidPaper", ("price", (0, 1)), lets_prices, (3, 1), (1, 5), ((0, 5, 12), (0, 7), (0,)))
        self.fails("InvalidPaper", ("price", (0, 2)), lets_prices, (3, 1), (1, 5), ((0, 4, 14), (0, 7), (0,)))
        self.fails("InvalidPaper", ("price", (1, 2)), lets_prices, (3, 1), (1, 5), ((0, 4, 13), (0, 7), (0,)))
        self.fails("InvalidPaper", ("start", 1), lets_prices, (3, 1), (1, 5), ((0, 9, 19), (1, 7), (0, 0)))
        self.fails("InvalidPaper", ("list", 1), lets_prices, (3, 1), (1, 5), ((0, 9, 19), [1, 7], (5,)))

    def test_one_price_bent(self):
        for costs, asks in some_lines(4, 3):
            table = prices(costs, asks)
            for i, told in enumerate(table):
                for k in range(len(told)):
                    for price in (told[k] + 1, told[k] - 1, -GREAT, GREAT, True, False, None, "0", (0,)):
                        row = told[:k] + (price,) + told[k + 1:]
                        self.looked_at(costs, asks, table[:i] + (row,) + table[i + 1:])

    def test_all_prices_lower(self):
        for costs, asks in some_lines(5, 2):
            for many in (1, 5, GREAT):
                lower = tuple(tuple(price - many for price in told) for told in prices(costs, asks))
                self.looked_at(costs, asks, lower)

    def test_shapes(self):
        costs, asks = (3, 1), (1, 5)
        table = prices(costs, asks)
        for thing in (
            None, True, 0, "", (), [], list(table), table[1:], table[:-1], table + ((0,),), (table,), [*table], "abc",
        ):
            self.fails("InvalidPaper", ("shape", -1), lets_prices, costs, asks, thing)
        for i, told in enumerate(table):
            for bad in (None, 0, "", "000", list(told), told[1:], told + (0,), (told,), (), {}):
                for j, later in enumerate(table):
                    bent = table[:i] + (bad,) + table[i + 1:]
                    self.looked_at(costs, asks, bent)
                    if j > i:
                        self.looked_at(costs, asks, bent[:j] + ((5,) * len(later),) + bent[j + 1:])
                        self.looked_at(costs, asks, bent[:j] + (None,) + bent[j + 1:])

    def test_two_faults(self):
        costs, asks = (2, 0, 5), (1, 4, 0)
        table = prices(costs, asks)
        places = [(i, k) for i in range(4) for k in range(4 - i)]
        for (i, k), (j, m) in itertools.product(places, places):
            for one, other in ((1, 1), (9, None), (None, 9), (True, -1)):
                bent = [list(told) for told in table]
                bent[i][k] = None if one is None else bent[i][k] + one
                bent[j][m] = None if other is None or bent[j][m] is None else bent[j][m] + other
                self.looked_at(costs, asks, tuple(tuple(told) for told in bent))

    def test_prices_of_others(self):
        lines = [pair for pair in some_lines(3, 2) if len(pair[0]) == 3]
        for one, other in itertools.product(lines, lines):
            self.looked_at(*one, prices(*other))

    def test_what_is_accepted_is_no_more_than_the_least(self):
        # All small tables.
        costs, asks = (1, 0), (0, 2)
        least = min(traffic(bases, costs, asks) for bases in plain_lines.all_plans(2))
        found = []
        for told in itertools.product(range(-1, 5), repeat=6):
            thing = (told[:3], told[3:5], told[5:])
            self.assertIs(fault(costs, asks, thing) is None, self.outcome(costs, asks, thing))
            if fault(costs, asks, thing) is None:
                found.append(told[2])
        self.assertEqual(max(found), least)

    def outcome(self, costs, asks, thing):
        try:
            lets_prices(costs, asks, thing)
        except ValueError:
            return False
        return True

    def test_refusals(self):
        costs, asks = (3, 1, 2), (1, 5, 0)
        self.refuses_each(lets_prices, (costs, asks, prices(costs, asks)), {
            "costs": NO_COSTS, "asks": NO_COSTS + ((1, 5), (1, 5, 0, 0), ()),
        })
        self.refuses("costs", lets_prices, None, None, None)
        self.refuses("asks", lets_prices, costs, None, None)
