"""The checker of tables of prices."""
from sincemarks.errors import InvalidPaper
from sincemarks.kinds import is_integer
from sincemarks.prices import require_traffic, sums_at


def lets_prices(costs, asks, thing):
    """The price of the whole line; InvalidPaper tells why thing is no table of prices that no store is below."""
    require_traffic(costs, asks)
    many = len(costs)
    if not isinstance(thing, tuple) or len(thing) != many + 1:
        raise InvalidPaper("shape", -1)
    for start, prices in enumerate(thing):
        if not _are_prices(many + 1 - start, prices):
            raise InvalidPaper("list", start)
        if prices[0] > 0:
            raise InvalidPaper("start", start)
    for start in range(many + 1):
        for end in range(start + 1, many + 1):
            if thing[start][end - start] > min(sums_at(costs, asks, thing, start, end)):
                raise InvalidPaper("price", (start, end))
    return thing[0][many]


def _are_prices(many, thing):
    if not isinstance(thing, tuple) or len(thing) != many:
        return False
    return all([is_integer(price) for price in thing])
