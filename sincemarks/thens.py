"""Changes put together, in sequence."""
from sincemarks.usable import require
from sincemarks.worthkinds import are_changes, blank_of, is_change, is_kind


def then(kind, one, other):
    """The change that the changes one, then other make."""
    require(is_kind(kind), "kind")
    require(is_change(kind, one), "one")
    require(is_change(kind, other), "other")
    return _joint(kind, one, other)


def put_together(kind, changes):
    """The change that all of changes make, from the blank on."""
    require(is_kind(kind), "kind")
    require(are_changes(kind, changes), "changes")
    whole = blank_of(kind)
    for change in changes:
        whole = _joint(kind, whole, change)
    return whole


def _joint(kind, one, other):
    name = kind[0]
    if name == "peak":
        return max(one, other)
    if name == "set":
        return tuple(sorted(set(one) | set(other)))
    if name == "last":
        return _last_of(one, other)
    if name == "affine":
        return _affine_of(kind[1], one, other)
    if name == "square":
        return _square_of(kind[1], one, other)
    if name == "turn":
        return tuple([other[place] for place in one])
    if name == "tail":
        return _tail_of(one, other)
    # "sum" and "text": numbers are added, strings follow one another.
    return one + other


def _last_of(one, other):
    # A key that stands in both keeps the value that comes later.
    values = {key: value for key, value in one + other}
    return tuple([(key, values[key]) for key in sorted(values)])


def _affine_of(modulus, one, other):
    a, b = one
    c, d = other
    return (c * a % modulus, (c * b + d) % modulus)


def _square_of(modulus, one, other):
    a, b, c, d = one
    e, f, g, h = other
    products = (a * e + b * g, a * f + b * h, c * e + d * g, c * f + d * h)
    return tuple([product % modulus for product in products])


def _tail_of(one, other):
    cut, put = one
    more, behind = other
    if more <= len(put):
        return (cut, put[:len(put) - more] + behind)
    return (cut + more - len(put), behind)
