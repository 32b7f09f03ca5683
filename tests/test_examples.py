"""The examples of the document, word for word."""
import importlib

from sincemarks.errors import MarkError
from tests.cases import Case
from tests.interface import CLASSES, ERRORS, MODULES

EXAMPLES = '''
    >>> LINE, FORK, WIDE = (0, 1, 2, 3, 4), (0, 1, 2, 1, 4, 5, 6), (0, 1, 1, 1)
    >>> TWOS, FREE = (0, 1, 0, 3, 3), (0, 0, 0, 0, 0)
    >>> LEVEL = (2, ((2, 2), (2, 2), (2, 2), (2, 2), (2, 2)))

    >>> from sincemarks.thens import then
    >>> [then(("tail",), (1, "ab"), (3, "c")), then(("affine", 7), (2, 3), (4, 5))]
    [(2, 'c'), (1, 3)]

    >>> from sincemarks.cuttings import left_on
    >>> from sincemarks.grafts import grafted, replaced
    >>> [left_on(FORK, (2, 5, 6)), replaced(FORK, 4, (0, 0)), grafted((0, 1), 1, (0, 1))]
    [(0, 0, 2), (0, 1, 2, 1, 1), (0, 1, 1, 3)]

    >>> from sincemarks.states import taken_over, changes_on
    >>> TEXT, ABCD = ("text",), ("a", "b", "c", "d")
    >>> [taken_over(TEXT, WIDE, ABCD, 2, 3), changes_on(TEXT, WIDE, ABCD, (2, 4))]
    ['c', ('ab', 'ad')]

    >>> from sincemarks.changetexts import change_word
    >>> from sincemarks.historytexts import read_history
    >>> change_word(("last",), ((0, -5), (3, None)))
    '0:-5,3:x'
    >>> read_history("history 0 2")
    raises InvalidText(line=0, field=2)

    >>> from sincemarks.historyclasses import Numbers
    >>> N = Numbers((0, 1, 1), (4, -6, 3))
    >>> [N.highest(), N.gain(2, 3), N.left((2, 3)).told()]
    [(3, 7), 9, (('sum',), (0, 0), (-2, 7))]

    >>> W = (((1,), (2,), (1, 2), (2,)), ((), (0,), (0, 1, 2)))
    >>> from sincemarks.storecounts import writes_of, reads_of
    >>> [writes_of((0, 1), W), reads_of((0, 1), W)]
    [(2, 3), (0, 1, 3)]

    >>> from sincemarks.faults import fault_of, manner_of
    >>> [fault_of((0, 1), (((1, 2),), ((), (0,), (0,)))), manner_of((0, 1), W)]
    [(1, 2), 'any']

    >>> from sincemarks.answers import answer_of
    >>> answer_of(("sum",), (0, 1), (5, 7), W, 2)
    raises Unserved(version=2)

    >>> from sincemarks.baseskinds import crossing_of
    >>> crossing_of((0, 1, 2, 3), (0, 1, 0, 2))
    (3, 4)

    >>> from sincemarks.chains import chain_of, holders_of, readers_of
    >>> [chain_of(LINE, TWOS, 5), holders_of(LINE, TWOS, 1), readers_of(LINE, TWOS, 3)]
    [(5, 3), (1, 3), (3, 4, 5)]

    >>> from sincemarks.goods import good_version, good_signs
    >>> [good_version((0, 1), W), good_signs((0, 1), W, 1), good_signs((0, 1), W, 2)]
    [1, ((0,), (0, 0)), ((2, 1), (0,))]

    >>> from sincemarks.leadchecker import lets_lead
    >>> lets_lead((0, 1), W, ((0, 2, (2, 1), (0,)), (0, 1, (0,), (0,))))
    (0, 0)
    >>> lets_lead((0, 1), W, ((0, 2, (2, 1), (0,)), (0, 1, (2,), (0,))))
    raises InvalidPaper(word='holders', at=1)

    >>> from sincemarks.storetexts import read_store
    >>> read_store((0,), ('store 1', 'sheet 1', 'read', 'read 1'))
    raises InvalidText(line=3, field=1)

    >>> H = heights_of(LINE, TWOS)
    >>> [H, bases_by(LINE, H), records_of(LINE, H, 5), open_row(LINE, H, 2)]
    [(2, 1, 2, 1, 1), (0, 1, 0, 3, 3), (5, 3), (2, 1)]
    >>> bases_by((0, 1, 2, 3), heights_of((0, 1, 2, 3), (0, 1, 0, 2)))
    (0, 1, 0, 3)

    >>> [merged(((2,), (1, 1))), stepped(2, 1, (2, 1, 1)), stepped(1, 3, ()), unlike_at((2, 1), (2,))]
    [(2, 1, 1), (2, 2), (3,), 1]

    >>> SHORT, TIGHT = (0, 1), (2, ((1, 2), (1, 1)))
    >>> [floors_of(SHORT, TIGHT), raised_bounds(SHORT, TIGHT, 1), one_bound(SHORT, TIGHT, 2, 5, 2)]
    [(1, 2), (3, ((1, 3), (1, 2))), (2, ((1, 2), (5, 2)))]

    >>> [plan_for(LINE, LEVEL), rows_of(SHORT, TIGHT), top_of(SHORT, TIGHT)]
    [(0, 1, 0, 3, 3), ((3,), (2,)), 3]
    >>> plan_for(SHORT, TIGHT)
    raises Unkept(wall=(1, 2))

    >>> [margin_of(SHORT, TIGHT), lifted_reach(SHORT, TIGHT, 1), lifted_reach(SHORT, TIGHT, 2), lifted_width(SHORT, TIGHT, 1)]
    [1, None, 2, 2]

    >>> STEEP = level_bounds(LINE, 1, 2)
    >>> [rows_on(LINE, STEEP, (1, 3, 4)), wall_in(LINE, STEEP)]
    [((4, (1,)), (3, (2,)), (1, (3,))), (1, 2, 3)]

    >>> lets_keep(LINE, STEEP, ("wall", ((3, (1,)), (2, (2,)), (1, (3,)))))
    False

    >>> [bounds_line(SHORT, TIGHT), heights_line(SHORT, (2, 1))]
    ['bounds 2 1:2 1:1', 'heights 2 1']
    >>> read_bounds(SHORT, "bounds 2 1:3 1:1")
    raises InvalidText(line=0, field=2)

    >>> book = Kept(LINE, LEVEL)
    >>> [book.may(2, 2, 1), book.may(3, 2, 1), list(book)[0]]
    [False, True, (2, 2)]
    >>> book.bind(2, 2, 1)
    raises Unkept(wall=(1, 2, 3, 4, 5))

    >>> from sincemarks.rownumbers import number_of, row_of, next_row
    >>> [number_of(2, (2, 1)), row_of(2, 9), next_row(2, (2, 2)), row_of(5, 0)]
    [4, (3, 3), (3,), ()]

    >>> from sincemarks.joining import joined, joined_all, joined_many
    >>> [joined(2, 9, 7), joined(2, 10, 7), joined_all(2, (1, 1, 1)), joined_many(2, 3, 5)]
    [9, 13, 2, 5]

    >>> from sincemarks.weights import weights_of, fits_level
    >>> [weights_of(FORK, 2), fits_level(FORK, 2, 2), fits_level(FORK, 1, 4)]
    [(5, 2, 1, 4, 3, 2, 1), True, False]

    >>> from sincemarks.pairs import least_width, pairs_of
    >>> [least_width(FORK, 1), pairs_of(WIDE), pairs_of(())]
    [7, ((1, 2), (2, 2), (3, 2), (4, 1)), ((1, 0),)]

    >>> from sincemarks.exchanging import as_line, alike_within
    >>> [as_line(FORK, 2, 1), alike_within(2, (0, 0, 0), (0, 1)), alike_within(3, (0, 0, 0), (0, 1))]
    [(0, 1, 2, 3, 4), True, False]

    >>> from sincemarks.partingchecker import lets_parting
    >>> lets_parting(2, (0, 0, 0), (0, 1, 2), (1, 2))
    raises InvalidPaper(word='parts', at=-1)

    >>> from sincemarks.rooms import room_of, spare_of, rooms_of
    >>> [rooms_of((0, 1, 2), 2, 2), room_of(FORK, 2, 2, 4), spare_of(FORK, 2, 2, 1)]
    [((None, 5), (5, 4), (4, 2), (3, 2)), 4, 2]
    >>> room_of((0, 1, 2, 3, 4, 5), 2, 2, 1)
    raises Unkept(wall=(1, 2, 3, 4, 5, 6))

    >>> from sincemarks.shapes import shape_of, shape_size, shape_weight, shape_reach, unfolded
    >>> FAR = ((1000000, 4, ((7, 2, ()),)),)
    >>> [shape_size(FAR), shape_weight(2, FAR), shape_reach(2, FAR), unfolded(((1, 1, ((2, 1, ()), (1, 2, ()))),))]
    [18000000, 9, 3, (0, 1, 1, 1, 4)]
    >>> shape_reach(1, ((1, 10 ** 25, ()),)) == 10 ** 25
    True
    >>> shape_of(FORK)
    ((1, 1, ((1, 2, ()), (1, 4, ()))),)

    >>> from sincemarks.shapetexts import shape_word, read_shape
    >>> shape_word(((1, 1, ((3, 2, ()), (1, 4, ()))), (2, 5, ())))
    '1x1(3x2,1x4),2x5'
    >>> read_shape("1x2(-)")
    raises InvalidText(line=0, field=0)

    >>> [is_line_plan((0, 1, 0, 2)), is_track("+--"), mirrored((0, 0, 0))]
    [False, True, (0, 1, 2)]
    >>> [track_of((0, 1, 0, 3, 3)), bases_from("+-++---"), turns_of("+-++---")]
    ['++-+--++---', (0, 1, 1), ((1, 0), (2, 1), (1, 2), (0, 2))]

    >>> [joined_plans((0, 1), (0, 0)), cut_of((0, 0, 2)), parts_of((0, 1, 0, 3, 3))]
    [(0, 1, 0, 3, 3), 2, ((0, 1), (0, 0))]

    >>> [plan_at(3, 0), plan_at(3, 1), plan_at(3, 2), plan_at(3, 3), plan_number((0, 0, 0))]
    [(0, 1, 2), (0, 1, 1), (0, 0, 2), (0, 1, 0), 4]

    >>> [sorted_least(5, 2), least_sum(5, 2), sorted_least(4, 1), least_greatest(6, 2)]
    [(1, 1, 2, 2, 2), 8, (1, 2, 3, 4), 3]

    >>> [grown_plan(2, 6), grown_base(2, 6), grown_chain(2, 5), grown_writes(2, 3, 4)]
    [(0, 1, 0, 3, 3, 0), 0, (5, 3), 1]
    >>> [grown_holders(2, 1, 10 ** 20, 4), grown_writes(1, 5, 10 ** 20), grown_greatest(2, 6)]
    [(1, 3, 6, 10), 99999999999999999996, 3]

    >>> [full_plan(2, 2), full_plan(1, 3), best_plan(2, 1)]
    [(0, 1, 0, 3, 3), (0, 1, 2), (0, 0)]

    >>> [traffic_of((0, 1), (3, 1), (1, 5)), least_traffic((3, 1), (1, 5)), cheapest_plan((3, 1), (1, 5))]
    [15, 13, (0, 0)]

    >>> price_table((3, 1), (1, 5))
    ((0, 4, 13), (0, 6), (0,))

    >>> lets_prices((3, 1), (1, 5), ((0, 4, 12), (0, 5), (-1,)))
    12

    >>> line = Grown(2, 4)
    >>> [line.grow(), line == Line((0, 1, 0, 3, 3)), line(5), line.fits(2, reach=1)]
    [3, True, (5, 3), False]

    >>> SUM, TEXT, GIVEN, WORDS = ("sum",), ("text",), (5, -2, 7, 1, 4), ("a", "b", "c", "d", "e")

    >>> from sincemarks.sheetfilling import filled
    >>> filled(SUM, LINE, GIVEN, TWOS)
    (5, -2, 10, 1, 5)

    >>> from sincemarks.sheetchecker import lets_sheets
    >>> lets_sheets(SUM, (0, 1), (5, 1), (0, 0), (5, 6))
    2
    >>> lets_sheets(SUM, (0, 1), (1, 1), (0, 1), (1, True))
    raises InvalidPaper(word='sheet', at=1)

    >>> from sincemarks.asking import asked, asked_all
    >>> [asked(TEXT, (0, 1), (0, 1), ("a", "b"), 2), asked_all(SUM, LINE, TWOS, (5, -2, 10, 1, 5))]
    ['ab', (0, 5, 3, 10, 11, 15)]

    >>> from sincemarks.sheetpieces import pieces_of, made_sheet
    >>> [pieces_of(LINE, TWOS, 3), pieces_of(LINE, TWOS, 5)]
    [(1, 2), (4,)]
    >>> made_sheet(TEXT, LINE, WORDS, TWOS, ("x", "y", "", "", ""), 3)
    'xyc'

    >>> from sincemarks.mending import mend_order, mend_cost, mended
    >>> [mend_order(LINE, TWOS, 4), mend_cost(LINE, TWOS, 4)]
    [(4, 5), (2, 1)]
    >>> mended(SUM, LINE, GIVEN, TWOS, (5, -2, 10, 1, 5), 4, 10)
    ((5, -2, 7, 10, 4), (5, -2, 10, 10, 14))

    >>> from sincemarks.losses import spoiled_by, most_spoiled, worst_lost
    >>> [spoiled_by(LINE, TWOS, (1, 4)), most_spoiled(LINE, TWOS, 1), worst_lost(LINE, TWOS, 1), most_spoiled(LINE, TWOS, 9)]
    [(1, 2, 4), 3, (3,), 5]

    >>> from sincemarks.remaking import remake_cost, remade
    >>> [remake_cost(LINE, TWOS, (3, 5)), remade(SUM, LINE, GIVEN, TWOS, (5, -2, 99, 1, 0), (3, 5))]
    [(2, 3), (5, -2, 10, 1, 5)]

    >>> from sincemarks.shifting import rewritten, shifted
    >>> [rewritten(LINE, TWOS, FREE), shifted(TEXT, (0, 1), ("a", "b"), (0, 1), ("a", "b"), (0, 0))]
    [(2, 4, 5), ('a', 'ab')]

    >>> from sincemarks.sheettexts import sheets_line, read_sheets
    >>> [sheets_line(TEXT, ("a", "")), sheets_line(SUM, ()), read_sheets(SUM, 2, "sheets 5 -2")]
    ['sheets =a =', 'sheets', (5, -2)]
    >>> read_sheets(SUM, 2, "sheets 5")
    raises InvalidText(line=0, field=2)

    >>> from sincemarks.sheetclasses import Filled, Sums
    >>> book = Sums(LINE, GIVEN, TWOS)
    >>> [book(5), book.put_right(1, 6), book(5), book.lose(4), book.worths_now]
    [15, (1, 3), 16, (4,), (6, -2, 11, None, 5)]
    >>> book(4)
    raises Unserved(version=4)
    >>> [book.raise_by(5, 2), book.lost_now, book(4), book.apart(5, 2)]
    [(4, 5), (), 12, -14]

    >>> from sincemarks.liveevents import is_event, is_log
    >>> [is_event(("sum",), 0, ("take", 0, 0)), is_event(("sum",), 2, ("mend", 0, 5)), is_event(("sum",), 1, ("drop", True))]
    [True, False, False]
    >>> [is_log((("sum",), 2, 2, 2, (("commit", 0, 5), ("drop", 1)))), is_log((("sum",), 2, 2, 2, (("drop", 1),)))]
    [True, False]

    >>> from sincemarks.renewing import renewed
    >>> THREE = (2, ((2, 2), (2, 2), (2, 2)))
    >>> [renewed((0, 1, 1), THREE, ((1, 1), (), (1,)), 2), renewed((0, 1, 1), THREE, ((1, 1), (1,), (1,)), 3)]
    [(((2,), (1,), (1,)), (2, 1)), (((1, 1), (1,), (1,)), (3,))]

    >>> from sincemarks.live import LiveMarks
    >>> book = LiveMarks(("sum",), 2, 2, 2)
    >>> book.do_all((("commit", 0, 5), ("commit", 1, 7), ("commit", 1, 2)))
    3
    >>> [book.history_now(), book.rows_now(), book.bases_now(), book.sheets_now(), book.state_now(2), book.wrote_now()]
    [(0, 1, 1), ((2,), (1,), (1,)), (0, 1, 1), (5, 7, 2), 12, (2, 3)]
    >>> [book.barred(("graft", 2, (0, 1, 2, 3), (0, 0, 0, 0))), book.barred(("bound", 1, 1, 3)), book.barred(("drop", 4)), book.barred(("drop", 2))]
    ['bounds', 'roof', 'form', None]

    >>> [book.do(("drop", 2)), book.bases_now(), book.sheets_now(), book.wrote_now()]
    [None, (0, 0), (5, 7), (2,)]
    >>> [book.do(("mend", 1, 6)), book.sheets_now(), book.wrote_now()]
    [None, (6, 8), (1, 2)]

    >>> book.do_all((("commit", 2, 1), ("drop", 9)))
    raises InvalidEvent(event=('drop', 9), reason='form')
    >>> [book.tally(), book.undo(2), book.history_now(), book.wrote_now(), book.tally()]
    [(6, 1, 1), None, (0, 1, 1), (2, 3), (6, 3, 1)]

    >>> from sincemarks.eventtexts import event_line, read_event, read_log
    >>> event_line(("text",), ("graft", 0, (0, 1), ("ab", "")))
    'graft 0 2 0 1 =ab ='
    >>> read_event(("sum",), "mend 0 5")
    raises InvalidText(line=0, field=1)
    >>> read_log(("kind sum", "live 2 2 2", "commit 0 5", "drop 2"))
    raises InvalidText(line=3, field=0)

    >>> thinned(("sum",), LINE, (1, 2, 4, 8, 16), LEVEL, (2, 5))
    ((0, 1), (3, 28), (2, ((2, 2), (2, 2))))
    >>> fitting((0, 1, 2, 1), (1, ((2, 1), (1, 1), (1, 1), (1, 1))))
    (1, 2)

    >>> AGES = ((1, 2), (3, 1))
    >>> [calendar_bounds(4, 2, AGES), backup_plan(4, 2, AGES), backup_width(4, AGES)]
    [(2, ((2, 1), (2, 1), (2, 2), (2, 2))), (0, 0, 2, 2), 2]
    >>> backup_plan(4, 1, AGES)
    raises Unkept(wall=(1, 2))

    >>> [put_back((0, 0, 2, 2), 4), full_days((0, 0, 2, 2)), lost_days((0, 0, 2, 2), (2,))]
    [(2, 4), (1, 2), (2, 3, 4)]

    >>> POURING = (0, 0, 2, 0, 1)
    >>> [pouring_of(TWOS), plan_poured(POURING), poured_counts(POURING)]
    [(0, 0, 2, 0, 1), (0, 1, 0, 3, 3), (2, 2, 1, 2, 1)]
    >>> [standing_after(POURING, 4), standing_after(POURING, 5)]
    [((1, 3), (4, 4)), ((1, 3), (4, 5))]

    >>> STAGING = (((1,),), ((1, 2),), ((1,), (2, 3)))
    >>> [staging_of((0, 0, 2)), staging_counts(STAGING), led_pouring((((1,),), ((1, 2),)))]
    [(((1,),), ((1,), (2,)), ((1, 2, 3),)), ((3, 2, 1), (1, 1, 2)), (0, 1)]
    >>> staging_store(STAGING)
    (((1,), (1, 2), (1,), (2, 3)), ((), (0,), (1,), (2, 3)))

    >>> sums = Totals((3, 1, 4, 1, 5), TWOS)
    >>> [sums.total(5), sums.within(1, 4), sums.parts()]
    [14, 6, (3, 1, 8, 1, 6)]
    >>> [sums.put(0, 10), sums.raise_by(4, -2), sums.total(5), sums.parts(), len(sums)]
    [2, 1, 19, (10, 1, 15, 1, 4), 5]

    >>> book_lines(("sum",), (0, 1), (3, 28), (2, ((2, 2), (2, 1))))
    ('kind sum', 'history 0 1', '3', '28', 'bounds 2 2:2 2:1')
    >>> read_book(("kind sum", "history 0", "3"))
    raises InvalidText(line=3, field=0)

    >>> [judged(LINE, LEVEL, TWOS), judged(LINE, LEVEL, FREE), settled((0, 1), (1, ((1, 1), (1, 1))))]
    ['plan', 'none', ('wall', (1, 2))]

    >>> desk = Desk()
    >>> [desk.say("begin sum 2 2 2"), desk.say("commit 0 5"), desk.say("commit 1 7"), desk.say("bases"), desk.say("bars drop 3")]
    ['ok', '1', '2', 'bases 0 0', 'form']
    >>> [desk.say("state 2"), desk.say("thin 2"), desk.say("log"), desk.say("undo"), desk.counts()]
    ['12', '1', 'commit 0 5 / commit 1 7 / drop 1', 'drop 1', (9, 0)]
    >>> desk.say("thin 2 1")
    raises InvalidRow(row='thin 2 1')
'''


def steps_of(text):
    """Each step with the line that it is to give, None where it gives none."""
    steps = []
    for line in text.splitlines():
        if line.startswith("    >>> "):
            steps.append([line[len("    >>> "):], None])
        elif line.strip():
            steps[-1][1] = line[len("    "):]
    return steps


def shown(source, names):
    """What the document shows for a step."""
    try:
        code = compile(source, "example", "eval")
    except SyntaxError:
        exec(source, names)
        return None
    try:
        return repr(eval(code, names))
    except MarkError as error:
        name = error.__class__.__name__
        fields = ", ".join(f"{field}={getattr(error, field)!r}" for field in ERRORS[name][1])
        return f"raises {name}({fields})"


def interface():
    """All functions and classes, as some examples leave out imports."""
    places = [(module, name) for module, functions in MODULES.items() for name in functions]
    places += [(told["module"], name) for name, told in CLASSES.items()]
    return {name: getattr(importlib.import_module(f"sincemarks.{module}"), name) for module, name in places}


# What the document tells of its examples in words.
TOLD = '''
    >>> LINE, FORK, TWOS, FREE = (0, 1, 2, 3, 4), (0, 1, 2, 1, 4, 5, 6), (0, 1, 0, 3, 3), (0, 0, 0, 0, 0)
    >>> LEVEL = level_bounds(LINE, 2, 2)
    >>> [is_plan(LINE, TWOS), is_plan(LINE, FREE), is_line_plan(TWOS), is_line_plan(FREE)]
    [True, True, True, True]
    >>> store_by(LINE, TWOS)[0]
    ((1,), (2,), (1, 2, 3), (4,), (4, 5))
    >>> [chain_of(LINE, TWOS, 5), writes_by(LINE, TWOS), reads_by(LINE, TWOS)]
    [(5, 3), (2, 2, 1, 2, 1), (0, 1, 2, 1, 2, 2)]
    >>> [keeps(LINE, LEVEL, store_by(LINE, TWOS)), keeps(LINE, LEVEL, store_by(LINE, FREE)), writes_by(LINE, FREE)[0]]
    [True, False, 5]
    >>> rows_of(LINE, LEVEL)[::-1]
    ((1,), (1, 1), (2,), (2, 1), (2, 2))
    >>> [number_of(2, row) for row in rows_of(LINE, LEVEL)[::-1]]
    [1, 2, 3, 4, 5]
    >>> [rows_of(line_of(6), level_bounds(line_of(6), 2, 2))[0], capacity(2, 2), forest_weight(FORK, 2), many_of(FORK)]
    [(3,), 6, 5, 7]
'''


class Examples(Case):
    def looked_at(self, text):
        names = interface()
        for source, want in steps_of(text):
            self.assertEqual(shown(source, names), want, source)

    def test_examples(self):
        self.looked_at(EXAMPLES)

    def test_what_is_told_of_them(self):
        self.looked_at(TOLD)
