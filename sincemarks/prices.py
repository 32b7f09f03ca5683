"""The prices of stretches of a line: the least traffic of each."""
from sincemarks.kinds import are_numbers
from sincemarks.usable import require


def require_traffic(costs, asks):
    """Refuse costs or asks unless they are numbers, as many of the one as of the other."""
    require(are_numbers(costs), "costs")
    require(are_numbers(asks) and len(asks) == len(costs), "asks")


def price_table(costs, asks):
    """For each number i up to that of the changes, the prices (i, i), (i, i + 1), .. of what is behind version i."""
    require_traffic(costs, asks)
    many = len(costs)
    table = [[0] * (many + 1 - start) for start in range(many + 1)]
    for start in range(many - 1, -1, -1):
        for end in range(start + 1, many + 1):
            table[start][end - start] = min(sums_at(costs, asks, table, start, end))
    return tuple([tuple(prices) for prices in table])


def sums_at(costs, asks, table, start, end):
    """What the stretch from start to end costs by each of its cuts, from start + 1 on, at the prices of a table."""
    sums = []
    for cut in range(start + 1, end + 1):
        parts = table[start][cut - 1 - start] + table[cut][end - cut]
        # The cut's sheet holds what is behind start; all from the cut on read it.
        sums.append(parts + sum(costs[start:cut]) + sum(asks[cut - 1:end]))
    return sums
