"""[53] Line plans as trees; what [G7] says of them."""
from sincemarks.tracks import bases_from, is_line_plan, is_track, mirrored, track_of, turns_of
from tests import line_samples, plain_lines, samples
from tests.cases import Case


class Kinds(Case):
    def test_all_tuples_of_up_to_five(self):
        for many in range(6):
            for thing in samples.all_histories(many):
                self.gives(plain_lines.is_line_plan(thing), is_line_plan, thing)
        for many, want in enumerate((1, 1, 2, 5, 14, 42, 132, 429)):
            self.same(len(plain_lines.all_plans(many)), want)

    def test_line_plans(self):
        for bases in line_samples.plans(7):
            self.gives(True, is_line_plan, bases)

    def test_no_line_plans(self):
        for thing in line_samples.NO_PLANS:
            self.gives(False, is_line_plan, thing)

    def test_values_of_any_sort(self):
        for thing in samples.ANY:
            if type(thing) is tuple and len(thing) > 99:
                continue
            self.gives(plain_lines.is_line_plan(thing), is_line_plan, thing)
            self.gives(plain_lines.is_track(thing), is_track, thing)

    def test_long_values(self):
        self.gives(True, is_line_plan, tuple(range(4999)))
        self.gives(True, is_line_plan, (0,) * 4999)
        self.gives(False, is_line_plan, (0,) * 4998 + (True,))
        self.gives(False, is_line_plan, tuple(range(4998)) + (4999,))
        self.gives(False, is_line_plan, (0,) * 4998 + (4997,))
        self.gives(True, is_line_plan, (0,) * 4998 + (4998,))
        self.gives(True, is_track, "+" * 1999 + "-" * 2000)
        self.gives(True, is_track, "+-" * 1999 + "-")
        self.gives(False, is_track, "+-" * 1999 + "--")
        self.gives(False, is_track, "+" * 2000 + "-" * 2000)

    def test_all_strings_of_up_to_nine_signs(self):
        told = [""]
        for _ in range(9):
            told = [text + sign for text in told for sign in "+-"]
            for text in told:
                self.same(is_track(text), plain_lines.is_track(text), text)

    def test_no_tracks(self):
        for thing in line_samples.NO_TRACKS:
            self.gives(False, is_track, thing)


class Tracks(Case):
    def test_by_hand(self):
        self.gives("-", track_of, ())
        self.gives("+--", track_of, (0,))
        self.gives("+-+--", track_of, (0, 1))
        self.gives("++---", track_of, (0, 0))
        self.gives("++-+--++---", track_of, (0, 1, 0, 3, 3))
        self.gives((0, 1, 1), bases_from, "+-++---")
        self.gives(((1, 0), (2, 1), (1, 2), (0, 2)), turns_of, "+-++---")
        self.gives(((0, 0),), turns_of, "-")
        self.gives(((1, 0), (0, 1)), turns_of, "+--")
        self.gives((0, 1, 2), mirrored, (0, 0, 0))
        self.gives((0, 0, 0), mirrored, (0, 1, 2))
        self.gives((), mirrored, ())
        self.gives((0, 1, 0, 3, 3), mirrored, plain_mirrored((0, 1, 0, 3, 3)))

    def looked_at(self, bases):
        many = len(bases)
        track = plain_lines.track(bases)
        self.gives(track, track_of, bases)
        self.gives(True, is_track, track)
        self.gives(bases, bases_from, track)
        turns = plain_lines.turns(plain_lines.tree(bases))
        self.gives(turns, turns_of, track)
        reads, writes = plain_lines.reads(bases), plain_lines.writes(bases)
        # Bud i: as many turns to the right as version i has reads, to the left as change i + 1 has writes.
        self.same(turns, tuple(zip(writes + (0,), reads)))
        other = self.answer(mirrored, bases)
        self.same(other, plain_mirrored(bases))
        self.gives(bases, mirrored, other)
        other_reads, other_writes = plain_lines.reads(other), plain_lines.writes(other)
        for i in range(1, many + 1):
            self.same(other_reads[i], writes[many - i])
            self.same(other_writes[i - 1], reads[many + 1 - i])

    def test_all_plans_of_up_to_seven(self):
        found = set()
        for many in range(8):
            for bases in plain_lines.all_plans(many):
                self.looked_at(bases)
                found.add(track_of(bases))
        self.assertEqual(len(found), sum(len(plain_lines.all_plans(many)) for many in range(8)))

    def test_larger_plans(self):
        for bases in line_samples.plans(0, 40):
            self.looked_at(bases)

    def test_all_tracks_are_of_one_plan(self):
        told = [""]
        for _ in range(11):
            told = [text + sign for text in told for sign in "+-"]
            for text in [text for text in told if plain_lines.is_track(text)]:
                self.same(track_of(bases_from(text)), text)

    def test_refusals(self):
        for bad in line_samples.NO_PLANS:
            self.refuses("bases", track_of, bad)
            self.refuses("bases", mirrored, bad)
        for bad in line_samples.NO_TRACKS:
            self.refuses("track", bases_from, bad)
            self.refuses("track", turns_of, bad)


def plain_mirrored(bases):
    """By the trees: both sides are exchanged everywhere, and the bases are read off again."""
    def turned(tree):
        return None if tree is None else (turned(tree[1]), turned(tree[0]))

    def bases_of(tree):
        if tree is None:
            return ()
        ahead, behind = bases_of(tree[0]), bases_of(tree[1])
        return ahead + (0,) + tuple(base + len(ahead) + 1 for base in behind)

    return bases_of(turned(plain_lines.tree(bases)))
