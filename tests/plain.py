"""Plain counts of what the program is to give, made step by step."""


def parents(history):
    """The parent of each version from 1 on, by version."""
    return dict(enumerate(history, start=1))


def elders(history, version):
    above = parents(history)
    found = []
    while version in above:
        version = above[version]
        found.append(version)
    return tuple(found)


def path(history, version):
    with_it = {version, *elders(history, version)}
    return tuple(v for v in range(1, len(history) + 1) if v in with_it)


def branch(history, version):
    return tuple(
        v for v in range(len(history) + 1) if v == version or version in elders(history, v)
    )


def children(history, version):
    return tuple(v for v, parent in parents(history).items() if parent == version)


def meet(history, one, other):
    both = {one, *elders(history, one)} & {other, *elders(history, other)}
    return max(both)


def left_parent(history, versions, version):
    """The nearest elder among versions, by its old number, otherwise 0."""
    return next((elder for elder in elders(history, version) if elder in versions), 0)


def left_on(history, versions):
    places = {0: 0, **{version: k for k, version in enumerate(versions, start=1)}}
    return tuple(places[left_parent(history, versions, version)] for version in versions)


def hung(history, version, other):
    result = list(history)
    for parent in other:
        result.append(version if parent == 0 else len(history) + parent)
    return tuple(result)


def then(kind, one, other):
    name = kind[0]
    if name == "sum":
        return one + other
    if name == "peak":
        return one if one > other else other
    if name == "set":
        return tuple(sorted({*one, *other}))
    if name == "last":
        return tuple(sorted({**dict(one), **dict(other)}.items(), key=lambda pair: pair[0]))
    if name == "affine":
        (a, b), (c, d) = one, other
        return (c * a) % kind[1], (c * b + d) % kind[1]
    if name == "square":
        (a, b, c, d), (e, f, g, h) = one, other
        whole = a * e + b * g, a * f + b * h, c * e + d * g, c * f + d * h
        return tuple(k % kind[1] for k in whole)
    if name == "turn":
        return tuple(other[one[i]] for i in range(kind[1]))
    if name == "tail":
        (c, x), (d, y) = one, other
        if d <= len(x):
            return c, "".join(list(x)[:len(x) - d]) + y
        return c + d - len(x), y
    return one + other


def blank(kind):
    return {
        "sum": 0, "peak": 0, "set": (), "last": (), "affine": (1, 0), "square": (1, 0, 0, 1),
        "turn": tuple(range(kind[-1])) if kind[0] == "turn" else None, "tail": (0, ""), "text": "",
    }[kind[0]]


def whole(kind, changes):
    result = blank(kind)
    for change in changes:
        result = then(kind, result, change)
    return result


def state(kind, history, changes, version):
    return whole(kind, [changes[v - 1] for v in path(history, version)])


def way(kind, history, changes, one, other):
    """What leads from one to other, which is below it or the same."""
    steps = [v for v in path(history, other) if v not in path(history, one)]
    return whole(kind, [changes[v - 1] for v in steps])


def is_integer(thing):
    return type(thing) is int


def is_number(thing):
    return type(thing) is int and thing >= 0


def is_set(thing):
    if type(thing) is not tuple or not all(is_number(k) for k in thing):
        return False
    return list(thing) == sorted(set(thing))


def is_letters(thing):
    return type(thing) is str and all(97 <= ord(sign) <= 122 for sign in thing)


def is_tuple_of(thing, many):
    return type(thing) is tuple and len(thing) == many


def is_change(kind, thing):
    name = kind[0]
    if name == "sum":
        return is_integer(thing)
    if name == "peak":
        return is_number(thing)
    if name == "set":
        return is_set(thing)
    if name == "last":
        return (
            type(thing) is tuple
            and all(is_tuple_of(pair, 2) for pair in thing)
            and is_set(tuple(pair[0] for pair in thing))
            and all(pair[1] is None or is_integer(pair[1]) for pair in thing)
        )
    if name in ("affine", "square"):
        many = 2 if name == "affine" else 4
        return is_tuple_of(thing, many) and all(is_number(k) and k < kind[1] for k in thing)
    if name == "turn":
        return (
            is_tuple_of(thing, kind[1]) and all(is_integer(k) for k in thing)
            and sorted(thing) == list(range(kind[1]))
        )
    if name == "tail":
        return is_tuple_of(thing, 2) and is_number(thing[0]) and is_letters(thing[1])
    return is_letters(thing)
