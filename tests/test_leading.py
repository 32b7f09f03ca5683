"""[29] Good versions; [30] plans that right stores lead to; [31] papers of leading; [G1]."""
from sincemarks.baseskinds import is_plan
from sincemarks.goods import good_signs, good_version, is_good
from sincemarks.leadchecker import lets_lead
from sincemarks.leading import led
from sincemarks.leadpapers import lead_paper
from sincemarks.storekinds import is_store
from tests import plain, plain_stores, samples, store_samples
from tests.cases import Case

SHORT = (0, 1)
W = (((1,), (2,), (1, 2), (2,)), ((), (0,), (0, 1, 2)))
PAPER = ((0, 2, (2, 1), (0,)), (0, 1, (0,), (0,)))


def right_books(many=2):
    """Histories with right stores of all sorts."""
    for history in samples.SMALL[::3] + samples.LARGE[:3] + samples.LARGE[12:14]:
        for store in store_samples.right_stores(history, many):
            yield history, store


def large_books():
    """Histories of twenty-four changes with stores of up to eighty sheets."""
    for k, history in enumerate((
        tuple(range(24)), (0,) * 24, tuple(k // 2 for k in range(24)), tuple(max(0, k - 1) for k in range(24)),
        samples.some_history(24, samples.chance("twenty-four")),
    )):
        source = samples.chance("large books", k)
        for manner in store_samples.MANNERS:
            sheets, read = store_samples.some_store(history, manner, source, 0)
            assert len(sheets) <= 80, len(sheets)
            more = tuple(
                tuple(sorted(source.sample(range(1, 25), source.randint(1, 4)))) for _ in range(80 - len(sheets))
            )
            yield history, (sheets + more, read)


def all_right_stores():
    for history, many in (((), 0), ((0,), 2), ((0, 0), 2), ((0, 1), 2)):
        for store in store_samples.all_stores(history, many):
            if plain_stores.fault(history, store) is None:
                yield history, store


def some_paper(history, store, source):
    """Any paper: any good version of any part, and any of the sheets that may stand for each."""
    parts = {0: set(plain_stores.later(history))}
    steps = []
    while any(parts.values()):
        ground = source.choice([ground for ground, part in parts.items() if part])
        part = tuple(sorted(parts[ground]))
        told = {version: plain_stores.choices(history, store, part, version) for version in part}
        version = source.choice([version for version in part if all(map(all, told[version]))])
        holders, readers = (tuple(source.choice(found) for found in both) for both in told[version])
        steps.append((ground, version, holders, readers))
        branch = set(plain.branch(history, version))
        parts[version] = parts[ground] & branch - {version}
        parts[ground] = parts[ground] - branch
    return tuple(steps)


class Goods(Case):
    def looked_at(self, history, store):
        good = []
        for version in range(len(history) + 1):
            signs = plain_stores.good_signs(history, store, version)
            self.gives(signs is not None, is_good, history, store, version)
            self.gives(signs, good_signs, history, store, version)
            if signs is not None:
                good.append(version)
        self.gives(good[0] if history else None, good_version, history, store)
        return len(good)

    def test_by_hand(self):
        self.gives(1, good_version, SHORT, W)
        self.gives(((0,), (0, 0)), good_signs, SHORT, W, 1)
        self.gives(((2, 1), (0,)), good_signs, SHORT, W, 2)
        self.gives(None, good_signs, SHORT, W, 0)
        self.gives(False, is_good, SHORT, W, 0)
        # Sheet 0 is the first one that holds change 1, but it ends outside of the branch of 2.
        store = (((1, 3), (1, 2), (1,)), ((), (2,), (1,), (0,)))
        self.gives(((1, 1), (1,)), good_signs, (0, 1, 1), store, 2)
        self.gives(((0, 0), (0,)), good_signs, (0, 1, 1), store, 3)
        self.gives(None, good_signs, (0, 1, 1), store, 1)
        self.gives(2, good_version, (0, 1, 1), store)

    def test_a_sheet_that_nobody_reads_is_no_sign(self):
        store = (((1, 2), (1,), (2,)), ((), (1,), (1, 2)))
        self.gives(((1,), (1, 1)), good_signs, SHORT, store, 1)
        self.gives(None, good_signs, SHORT, store, 2)
        self.gives(False, is_good, SHORT, store, 2)

    def test_sheets_below_are_no_sign_for_readers(self):
        # Version 2 reads nothing within the path of 1.
        store = (((1,), (1, 2)), ((), (0,), (1,)))
        self.gives(None, good_signs, SHORT, store, 1)
        self.gives(((1, 1), (1,)), good_signs, SHORT, store, 2)
        self.gives(2, good_version, SHORT, store)

    def test_no_changes(self):
        self.gives(None, good_version, (), ((), ((),)))
        self.gives(None, good_signs, (), ((), ((),)), 0)
        self.gives(False, is_good, (), ((), ((),)), 0)

    def test_right_stores(self):
        for history, store in right_books():
            good = self.looked_at(history, store)
            self.assertEqual(good > 0, len(history) > 0, (history, store))

    def test_all_small_stores(self):
        for history, store in all_right_stores():
            good = self.looked_at(history, store)
            self.assertEqual(good > 0, len(history) > 0, (history, store))

    def test_large_books(self):
        for history, store in large_books():
            self.assertGreater(self.looked_at(history, store), 0)


class Led(Case):
    def no_greater(self, history, store, bases):
        self.same(is_plan(history, bases), True)
        self.assertTrue(plain_stores.is_plan(history, bases))
        made = plain_stores.based(history, bases)
        pairs = zip(plain_stores.writes(history, made), plain_stores.writes(history, store), strict=True)
        self.assertTrue(all(one <= other for one, other in pairs), (history, store, bases))
        pairs = zip(plain_stores.reads(made), plain_stores.reads(store), strict=True)
        self.assertTrue(all(one <= other for one, other in pairs), (history, store, bases))

    def looked_at(self, history, store):
        self.no_greater(history, store, self.answer(led, history, store))
        paper = self.answer(lead_paper, history, store)
        bases, fault = plain_stores.followed(history, store, paper)
        self.assertIsNone(fault, (history, store, paper))
        self.gives(bases, lets_lead, history, store, paper)
        self.no_greater(history, store, bases)

    def test_right_stores(self):
        for history, store in right_books(4):
            self.looked_at(history, store)

    def test_all_small_stores(self):
        for history, store in all_right_stores():
            self.looked_at(history, store)

    def test_large_books(self):
        for history, store in large_books():
            self.looked_at(history, store)

    def test_no_changes(self):
        self.gives((), led, (), ((), ((),)))
        self.gives((), lead_paper, (), ((), ((),)))
        self.gives((), lets_lead, (), ((), ((),)), ())

    def test_one_change(self):
        self.gives((0,), led, (0,), (((1,),), ((), (0,))))
        self.gives(((0, 1, (0,), (0,)),), lead_paper, (0,), (((1,),), ((), (0,))))

    def test_a_plan_of_a_line_leads_to_itself(self):
        # It is a tree with two sides, and no other tree has all buds as near.
        for line in ((0, 1, 2, 3), samples.LINE):
            for bases in plain_stores.all_bases(line):
                store = plain_stores.based(line, bases)
                made = led(line, store)
                self.no_greater(line, store, made)
                if plain_stores.is_plan(line, bases):
                    self.same(made, bases)

    def test_any_paper(self):
        for history, store in list(right_books(1)) + list(all_right_stores())[::5]:
            source = samples.chance("papers", history, store)
            for _ in range(4):
                paper = some_paper(history, store, source)
                bases, fault = plain_stores.followed(history, store, paper)
                self.assertIsNone(fault)
                self.gives(bases, lets_lead, history, store, paper)
                self.no_greater(history, store, bases)


class Papers(Case):
    def looked_at(self, history, store, paper):
        bases, fault = plain_stores.followed(history, store, paper)
        if fault is None:
            self.gives(bases, lets_lead, history, store, paper)
        else:
            self.fails("InvalidPaper", fault, lets_lead, history, store, paper)
        return fault

    def test_by_hand(self):
        self.gives((0, 0), lets_lead, SHORT, W, PAPER)
        self.gives((0, 0), lets_lead, SHORT, W, ((0, 2, (2, 1), (2,)), (0, 1, (0,), (0,))))
        self.gives((0, 1), lets_lead, SHORT, W, ((0, 1, (0,), (0, 0)), (1, 2, (1,), (1,))))
        # In the part below 1, sheet 2 is cut to change 2 alone.
        self.gives((0, 1), lets_lead, SHORT, W, ((0, 1, (0,), (0, 0)), (1, 2, (2,), (2,))))
        for paper, fault in (
            (((0, 2, (2, 1), (0,)), (0, 1, (2,), (0,))), ("holders", 1)),
            (((0, 2, (0, 1), (0,)), (0, 1, (0,), (0,))), ("holders", 0)),
            (((0, 2, (2, 3), (0,)), (0, 1, (0,), (0,))), ("holders", 0)),
            (((0, 2, (2, 1), (3,)), (0, 1, (0,), (0,))), ("readers", 0)),
            (((0, 1, (0,), (0, 1)), (1, 2, (1,), (1,))), ("readers", 0)),
            (((0, 1, (0,), (0, 0)), (1, 2, (0,), (1,))), ("holders", 1)),
            (((0, 1, (0,), (0, 0)), (1, 2, (1,), (0,))), ("readers", 1)),
            (((0, 1, (0,), (0, 0)), (0, 2, (1,), (1,))), ("version", 1)),
            (((0, 1, (0,), (0, 0)), (2, 2, (1,), (1,))), ("ground", 1)),
            (((1, 2, (1,), (1,)), (0, 1, (0,), (0, 0))), ("ground", 0)),
            (((0, 2, (2, 1), (0,)), (2, 1, (0,), (0,))), ("version", 1)),
            (((0, 2, (2, 1), (0,)), (0, 2, (2, 1), (0,))), ("version", 1)),
            (((0, 0, (), (0,)), (0, 1, (0,), (0,))), ("version", 0)),
            (PAPER[:1], ("shape", -1)), (PAPER + PAPER[:1], ("shape", -1)), (list(PAPER), ("shape", -1)),
            ((PAPER[0], list(PAPER[1])), ("step", 1)), ((PAPER[0][:3], PAPER[1]), ("step", 0)),
            ((PAPER[0], PAPER[1] + ((),)), ("step", 1)), ((None, None), ("step", 0)),
        ):
            self.fails("InvalidPaper", fault, lets_lead, SHORT, W, paper)
            self.looked_at(SHORT, W, paper)

    def test_the_same_sheet_is_cut_otherwise_in_two_parts(self):
        # Sheet 0 ends in 3 for the part of all, in 2 once the branch of 3 is gone.
        history = (0, 1, 2)
        store = (((1, 2, 3), (1, 2), (1,)), ((), (2,), (1,), (0,)))
        self.gives((0, 0, 0), lets_lead, history, store, (
            (0, 3, (0, 0, 0), (0,)), (0, 2, (1, 1), (1,)), (0, 1, (2,), (2,)),
        ))
        # Nobody that is left reads sheet 0 then.
        self.fails("InvalidPaper", ("holders", 1), lets_lead, history, store, (
            (0, 3, (0, 0, 0), (0,)), (0, 2, (0, 1), (1,)), (0, 1, (2,), (2,)),
        ))
        # One part above and one below version 2, both with cuts of sheet 1.
        history = (0, 1, 2, 3)
        store = (((2,), (1, 3), (1,), (4,)), ((), (2,), (0, 2), (0, 1), (0, 1, 3)))
        for first in ((0, 2, (1, 0), (0, 0, 0)), (0, 2, (2, 0), (0, 0, 0))):
            self.looked_at(history, store, (first, (2, 3, (1,), (1, 1)), (2, 4, (3,), (3,)), (0, 1, (2,), (2,))))
        paper = ((0, 2, (2, 0), (0, 0, 0)), (2, 3, (1,), (1, 1)), (3, 4, (3,), (3,)), (0, 1, (2,), (2,)))
        self.looked_at(history, store, paper)

    def test_empty_parts_are_parts_of_no_version(self):
        paper = ((0, 2, (2, 1), (0,)), (2, 1, (0,), (0,)))
        self.fails("InvalidPaper", ("version", 1), lets_lead, SHORT, W, paper)
        paper = ((0, 1, (0,), (0, 0)), (0, 1, (0,), (0,)))
        self.fails("InvalidPaper", ("version", 1), lets_lead, SHORT, W, paper)
        self.fails("InvalidPaper", ("shape", -1), lets_lead, (), ((), ((),)), ((0, 1, (), ()),))

    def bent(self, paper, store, source):
        """The paper bent at one place."""
        k = source.randrange(len(paper))
        step = list(paper[k])
        place = source.randrange(5)
        numbers = range(-1, max(len(store[0]), len(paper)) + 2)
        if place < 2:
            step[place] = source.choice([*numbers, True, False, None, "0", (0,), [0]])
        elif place < 4:
            told = list(step[place])
            turn = source.randrange(5)
            spot = source.randrange(len(told))
            if turn == 0:
                told[spot:spot] = [source.choice(numbers)]
            elif turn == 1:
                del told[spot]
            else:
                told[spot] = source.choice([*numbers, *numbers, True, False, None, "0", (0,), [0]])
            step[place] = source.choice((tuple(told), tuple(told), tuple(told), told))
        elif source.random() < 0.5:
            step = source.choice((step, step[:3], step + [()], [None, *step[1:]], [step]))
        other = source.randrange(len(paper))
        if source.random() < 0.1:
            return tuple(paper[other] if k == at else one for at, one in enumerate(paper))
        return paper[:k] + (tuple(step) if place < 4 or source.random() < 0.8 else step,) + paper[k + 1:]

    def test_bent_at_one_place_and_at_several(self):
        found = {}
        for history, store in right_books(1):
            source = samples.chance("bent", history, store)
            for _ in range(40 if history else 0):
                paper = some_paper(history, store, source)
                for _ in range(source.choice((1, 1, 2, 3))):
                    try:
                        paper = self.bent(paper, store, source)
                    except (TypeError, IndexError, ValueError):
                        break
                fault = self.looked_at(history, store, paper)
                found[fault and fault[0]] = found.get(fault and fault[0], 0) + 1
        self.assertEqual(set(found), {None, "step", "ground", "version", "holders", "readers"})
        self.assertTrue(all(many > 20 for many in found.values()), found)

    def test_each_step_with_bools_and_lists(self):
        history = (0, 1)
        store = (((1,), (2,), (1, 2)), ((), (0,), (0, 1)))
        paper = ((0, 1, (0,), (0, 0)), (1, 2, (1,), (1,)))
        self.gives((0, 1), lets_lead, history, store, paper)
        for k, place, wrong, word in (
            (0, 0, False, "ground"), (1, 0, True, "ground"), (0, 1, True, "version"), (0, 2, (False,), "holders"),
            (1, 2, (True,), "holders"), (0, 3, (False, 0), "readers"), (0, 3, (0, False), "readers"),
            (1, 3, (True,), "readers"), (0, 2, [0], "holders"), (0, 3, [0, 0], "readers"), (0, 0, [], "ground"),
            (0, 1, [1], "version"), (0, 2, None, "holders"), (0, 3, 0, "readers"), (0, 2, (), "holders"),
            (0, 3, (0,), "readers"), (0, 3, (0, 0, 0), "readers"), (1, 2, (1, 1), "holders"), (0, 2, (3,), "holders"),
            (0, 2, (-3,), "holders"), (0, 3, (0, -3), "readers"), (0, 0, -1, "ground"), (1, 1, -1, "version"),
        ):
            step = paper[k][:place] + (wrong,) + paper[k][place + 1:]
            bent = paper[:k] + (step,) + paper[k + 1:]
            self.fails("InvalidPaper", (word, k), lets_lead, history, store, bent)
            self.looked_at(history, store, bent)

    def test_the_first_word_comes_first(self):
        for step, word in (
            ((5, 5, None, None), "ground"), ((0, 5, None, None), "version"), ((0, 1, None, None), "holders"),
            ((0, 1, (0,), None), "readers"), ((5, 5, None), "step"),
        ):
            self.fails("InvalidPaper", (word, 0), lets_lead, SHORT, W, (step, None))
        self.fails("InvalidPaper", ("step", 1), lets_lead, SHORT, W, (PAPER[0], None))
        self.fails("InvalidPaper", ("shape", -1), lets_lead, SHORT, W, (None,))

    def test_values_of_any_sort(self):
        for thing in samples.ANY:
            self.looked_at(SHORT, W, thing)
            self.looked_at(SHORT, W, (PAPER[0], thing))
            for place in range(4):
                step = PAPER[0][:place] + (thing,) + PAPER[0][place + 1:]
                self.looked_at(SHORT, W, (step, PAPER[1]))


class Refusals(Case):
    def calls(self):
        """Each function, with good arguments after the store."""
        return ((is_good, (1,)), (good_version, ()), (good_signs, (1,)), (led, ()), (lead_paper, ()),
                (lets_lead, (None,)))

    def test_no_stores(self):
        for history in (SHORT, samples.WIDE):
            for bad in store_samples.no_stores(history):
                for function, others in self.calls():
                    self.refuses("store", function, history, bad, *others)
                    self.refuses("store", function, history, bad, *[None for _ in others])

    def test_no_versions(self):
        faulty = (W[0], ((0,), (0,), (0,)))
        for function in (is_good, good_signs):
            for store in (W, faulty):
                for bad in samples.no_versions(SHORT):
                    self.refuses("version", function, SHORT, store, bad)

    def test_faulty_stores(self):
        for history in ((0,), SHORT, samples.WIDE, samples.FORK):
            for store in store_samples.faulty_stores(history, 1):
                self.same(is_store(history, store), True)
                fault = plain_stores.fault(history, store)
                for function, others in self.calls():
                    self.fails("Faulty", fault, function, history, store, *others)
                self.fails("Faulty", fault, is_good, history, store, 0)
                self.fails("Faulty", fault, good_signs, history, store, 0)
                self.fails("Faulty", fault, lets_lead, history, store, ())
