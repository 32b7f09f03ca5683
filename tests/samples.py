"""Kinds, changes, histories and wrong values for the tests."""
import itertools
import random

LINE, FORK, WIDE = (0, 1, 2, 3, 4), (0, 1, 2, 1, 4, 5, 6), (0, 1, 1, 1)

GREAT = 10 ** 30 - 1


def nested(depth, inner):
    for _ in range(depth):
        inner = (inner,)
    return inner


# Values of any sort, none of which is an integer, a number or a string.
ODD = (
    None, True, False, (), [], (0,), [0], (1,), (True,), (None,), ("",), ((),), ([],), [()],
    (0, 1), [0, 1], (1, 0), (0, 0), (0, None), (0, ""), (0, 1, 2), (0, 1, 2, 3), (1, 0, 0, 1),
    ("sum",), ["sum"], ("turn", 3), ((0, 1),), ((0, None), (1, 2)), nested(29, 7), nested(29, []),
    tuple(range(4999)), [None] * 4999, (0,) * 4999,
)

STRINGS = (
    "", "a", "z", "ab", "A", "0", "1", "-1", " ", "\n", "a\n", "a b", "sum", "text", "x", "-", "=",
    "0=", "=a", "0:1", "0,1", "history", "kind sum", "None", "True", "a" * 4000, "~", "`", "{",
)

INTEGERS = (0, 1, 2, 3, -1, -2, 9, 10, 39, 40, 41, 998, 999, 1000, GREAT, -GREAT, 10 ** 60 - 1)

ANY = ODD + STRINGS + INTEGERS

KINDS = (
    ("sum",), ("peak",), ("set",), ("last",), ("affine", 2), ("affine", 7), ("affine", 999),
    ("square", 2), ("square", 10), ("square", 999), ("turn", 1), ("turn", 2), ("turn", 4),
    ("turn", 9), ("tail",), ("text",),
)

# One of each of the nine.
NINE = (
    ("sum",), ("peak",), ("set",), ("last",), ("affine", 7), ("square", 10), ("turn", 4),
    ("tail",), ("text",),
)

NEEDS = {
    "sum": "once", "peak": "any", "set": "any", "last": "order", "affine": "order",
    "square": "order", "turn": "order", "tail": "order", "text": "order",
}

WORDS = tuple(NEEDS)

# What is no kind, with the word and place that lets_kind gives for it.
FAULTY_KINDS = (
    (None, "shape", -1), (True, "shape", -1), (0, "shape", -1), ("sum", "shape", -1),
    ("", "shape", -1), ((), "shape", -1), ([], "shape", -1), (["sum"], "shape", -1),
    (["affine", 7], "shape", -1), (("affine", 7, 7), "shape", -1),
    (("affine", 7, None), "shape", -1), (("none", 1, 2), "shape", -1),
    (("sum", "sum", "sum"), "shape", -1), ((1, 2, 3, 4), "shape", -1),
    (("none",), "name", 0), (("Sum",), "name", 0), (("sum ",), "name", 0),
    (("sum\n",), "name", 0), ((" sum",), "name", 0), (("",), "name", 0), ((None,), "name", 0),
    ((0,), "name", 0), ((True,), "name", 0), ((("sum",),), "name", 0), ((["sum"],), "name", 0),
    (([],), "name", 0), (("none", 7), "name", 0), (("none", 0), "name", 0),
    ((7, "affine"), "name", 0), (([], 7), "name", 0), (("kind", "sum"), "name", 0),
    (("affine",), "many", -1), (("square",), "many", -1), (("turn",), "many", -1),
    (("sum", 7), "many", -1), (("sum", None), "many", -1), (("peak", 1), "many", -1),
    (("set", 2), "many", -1), (("last", ()), "many", -1), (("tail", 3), "many", -1),
    (("text", ""), "many", -1), (("text", "text"), "many", -1), (("sum", []), "many", -1),
) + tuple(
    ((name, bound), "bound", 1)
    for name in ("affine", "square")
    for bound in (1, 0, -1, -2, 1000, 1001, GREAT, True, False, None, "7", "", (7,), [7], ())
) + tuple(
    (("turn", bound), "bound", 1)
    for bound in (0, -1, 10, 11, 999, GREAT, True, False, None, "3", "", (3,), [3], ())
)

NO_KINDS = tuple(thing for thing, _, _ in FAULTY_KINDS)

NO_TEXTS = (None, True, 0, 5, (), ("a",), [], ["history"], ("history", "0"))


def below(modulus, many):
    """Tuples of numbers below modulus, those at its edges among them."""
    edge = tuple(sorted({0, 1, modulus - 1}))
    return tuple(itertools.product(edge, repeat=many))


def turns(size):
    ascending = tuple(range(size))
    return tuple(dict.fromkeys((
        ascending, ascending[::-1], ascending[1:] + ascending[:1], ascending[-1:] + ascending[:-1],
        ascending[:size - 2] + ascending[size - 2:][::-1], ascending[:2][::-1] + ascending[2:],
    )))


def changes_of(kind):
    """Changes of the kind, those at the limits among them."""
    name = kind[0]
    if name == "sum":
        return (0, 1, -1, 5, -12, 10, 100, GREAT, -GREAT)
    if name == "peak":
        return (0, 1, 2, 5, 10, 120, GREAT)
    if name == "set":
        return ((), (0,), (3,), (0, 1), (1, 2, 10), (0, 3, 4, 100), tuple(range(40)),
                tuple(range(GREAT - 39, GREAT + 1)))
    if name == "last":
        return ((), ((0, 5),), ((0, None),), ((0, -5), (3, None)), ((3, 0), (10, 7)),
                ((1, 1), (2, 2), (3, 3)), ((GREAT, -GREAT),),
                tuple((key, None if key % 3 else -key) for key in range(40)))
    if name == "affine":
        return below(kind[1], 2)
    if name == "square":
        return below(kind[1], 4)[::5] + ((1, 1, 0, 1), (1, 0, 1, 1), (0, 1, 1, 0))
    if name == "turn":
        return turns(kind[1])
    if name == "tail":
        return ((0, ""), (0, "a"), (1, ""), (1, "ab"), (2, "cde"), (3, "z"), (4, ""), (10, "ab"),
                (40, "q" * 40), (GREAT, "abcdefghij" * 4))
    return ("", "a", "b", "ab", "zyx", "hello", "abcdefghij" * 4)


def chance(*seed):
    """A source of chance that is the same in each run."""
    return random.Random(repr(seed))


def some_change(kind, source):
    """Any change of the kind, small ones more often."""
    name = kind[0]
    if source.random() < 0.2:
        return source.choice(changes_of(kind))
    if name == "sum":
        return source.randint(-30, 30)
    if name == "peak":
        return source.randint(0, 30)
    if name == "set":
        return tuple(sorted(source.sample(range(12), source.randint(0, 4))))
    if name == "last":
        keys = sorted(source.sample(range(8), source.randint(0, 4)))
        return tuple((key, source.choice((None, source.randint(-9, 9)))) for key in keys)
    if name == "affine":
        return tuple(source.randrange(kind[1]) for _ in range(2))
    if name == "square":
        return tuple(source.randrange(kind[1]) for _ in range(4))
    if name == "turn":
        return tuple(source.sample(range(kind[1]), kind[1]))
    put = "".join(source.choice("abcxyz") for _ in range(source.randint(0, 4)))
    return (source.randint(0, 6), put) if name == "tail" else put


def some_changes(kind, many, source):
    return tuple(some_change(kind, source) for _ in range(many))


def some_history(many, source):
    """Any history; its versions hang low, high or anywhere."""
    reach = source.choice((1, 2, 4, many + 1))
    return tuple(source.randint(max(0, k + 1 - reach), k) for k in range(many))


def all_histories(many):
    """All histories of so many changes."""
    return tuple(itertools.product(*[range(k + 1) for k in range(many)]))


SMALL = tuple(history for many in range(5) for history in all_histories(many))

LARGE = (
    LINE, FORK, WIDE,
    tuple(range(40)),
    (0,) * 40,
    (0,) + (1,) * 39,
    tuple(k // 2 for k in range(40)),
    tuple(k // 3 for k in range(40)),
    tuple(max(0, k - 1) for k in range(40)),
    tuple(range(20)) + (10,) + tuple(range(21, 40)),
    tuple(k if k % 5 else 0 for k in range(40)),
    tuple(k - k % 2 for k in range(40)),
) + tuple(some_history(many, chance("history", many)) for many in (6, 9, 13, 20, 31, 39, 40))

HISTORIES = SMALL + LARGE


def no_versions(history):
    """What is no version of the history."""
    many = len(history)
    return (many + 1, many + 2, -1, -many - 1, GREAT, True, False, None, "0", "1", "", (0,), (1,), [0], ())


def no_sets(history):
    """What is no set of versions from 1 on of the history."""
    many = len(history)
    wrong = [
        (0,), (many + 1,), (-1,), (many + 2,), [], [1], None, 0, 1, True, "", "1", (True,), (None,), ("1",),
        ((1,),), (False,), (GREAT,), (0, 1), (1, 1), (1, many + 1),
    ]
    if many >= 2:
        wrong += [(2, 1), (1, 2, 2), (1, 1, 2), (0, 1, 2), [1, 2], (True, 2), (1, 2, None), (1, 2, many + 1)]
    return tuple(wrong)


NO_HISTORIES = (
    None, True, 0, 1, -1, "", "0", "history", [], [0], [0, 1], (1,), (-1,), (True,), (False,),
    (None,), ("0",), ((0,),), ([0],), (0, 2), (0, -1), (0, True), (0, False), (0, None), (0, "1"),
    (0, 1, 3), (0, 1, 2, 4), (0, 1, (2,)), (GREAT,), (0, 0, 0, -1), (0, 0, 0, True),
)


def subsets(history, few=12):
    """Sets of versions from 1 on: none, all, and some; all of them if they are few."""
    versions = range(1, len(history) + 1)
    if len(history) <= 5:
        return tuple(
            chosen for many in range(len(history) + 1)
            for chosen in itertools.combinations(versions, many)
        )
    source = chance("subsets", history)
    some = [tuple(v for v in versions if source.random() < source.random()) for _ in range(few)]
    return ((), tuple(versions), (1,), (len(history),), *some)
