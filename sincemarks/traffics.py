"""What writing the changes of a line and asking its versions costs."""
from sincemarks.kinds import are_numbers
from sincemarks.linecounts import line_reads, line_writes
from sincemarks.prices import price_table, require_traffic, sums_at
from sincemarks.tracks import plan_of_parts, require_line_plan
from sincemarks.usable import require


def traffic_of(bases, costs, asks):
    """All writes of a line plan, times their costs, and all reads from version 1 on, times their asks."""
    require_line_plan(bases, "bases")
    require(are_numbers(costs) and len(costs) == len(bases), "costs")
    require_traffic(costs, asks)
    written = [many * cost for many, cost in zip(line_writes(bases), costs)]
    asked_for = [many * times for many, times in zip(line_reads(bases)[1:], asks)]
    return sum(written) + sum(asked_for)


def least_traffic(costs, asks):
    """The least traffic of all right stores of the line."""
    return price_table(costs, asks)[0][-1]


def cheapest_plan(costs, asks):
    """A line plan with the least traffic."""
    return _cheapest_between(costs, asks, price_table(costs, asks), 0, len(costs))


def _cheapest_between(costs, asks, table, start, end):
    if start == end:
        return ()
    sums = sums_at(costs, asks, table, start, end)
    cut = start + 1 + sums.index(min(sums))
    ahead = _cheapest_between(costs, asks, table, start, cut - 1)
    return plan_of_parts(ahead, _cheapest_between(costs, asks, table, cut, end))
