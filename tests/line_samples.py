"""Line plans, tracks, and what is none, for the tests."""
from tests import plain_lines, samples

NO_PLANS = (
    None, True, 0, "", "-", "plan", [], [0], [0, 1], (1,), (-1,), (True,), (False,), (None,), ("0",), ((0,),), (0, 2),
    (0, True), (0, -1), (0, None), (0, "1"), (0, 1, 3), (0, 1, 0, 2), (0, 0, 1), (0, 0, 0, 1), (0, 1, 0, 1), (0, 1, 1, 2),
    (0, 1, 2, 0, 3), (0, 0, 1, 3, 4), [0, 0, 2], (0, 0, 2, 1), (0, False, 0), {},
)

NO_TRACKS = (
    "", "+", "+-", "++", "--", "-+", "+---", "++--", "-+-", "+-+", "++---+", "+ --", " +--", "+-- ", "+--\n", "\n", "-\n",
    "x", "+-x", "*--", "+_-", "0", "+--+--", "+-+-", "---", "-+--", "+" * 4000, "-" * 4000, "+-" * 2000, "track -", "track",
    None, True, 0, -1, (), [], ("-",), ["-"], (("+", "-", "-"),), ("+", "-", "-"), {},
)


def plans(most=6, many=12, length=20):
    """All plans of up to so many changes, and some longer ones."""
    for size in range(most + 1):
        yield from plain_lines.all_plans(size)
    source = samples.chance("plans")
    for _ in range(many):
        yield plain_lines.some_plan(source.randint(most + 1, length), source)
    yield (0,) * length
    yield tuple(range(length))
    yield plain_lines.grown_plan(2, length)
    yield plain_lines.grown_plan(3, length)
