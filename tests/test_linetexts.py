"""Line plans as lines of their tracks."""
from sincemarks.linetexts import read_track, track_line
from tests import line_samples, plain_lines, samples, text_samples
from tests.cases import Case


def field_of(text):
    """The field at which a text is no such line, None if it is one."""
    words = text.split(" ")
    if words[0] != "track":
        return 0
    if len(words) == 1 or not plain_lines.is_track(words[1]):
        return 1
    return 2 if len(words) > 2 else None


class Lines(Case):
    def looked_at(self, text):
        field = field_of(text)
        if field is not None:
            self.fails("InvalidText", (0, field), read_track, text)
        else:
            bases = self.answer(read_track, text)
            self.assertTrue(plain_lines.is_line_plan(bases))
            self.assertEqual("track " + plain_lines.track(bases), text)

    def test_by_hand(self):
        self.gives("track -", track_line, ())
        self.gives("track +--", track_line, (0,))
        self.gives("track ++-+--++---", track_line, (0, 1, 0, 3, 3))
        self.gives((0, 1, 1), read_track, "track +-++---")
        self.fails("InvalidText", (0, 0), read_track, "")
        self.fails("InvalidText", (0, 0), read_track, "Track -")
        self.fails("InvalidText", (0, 0), read_track, "track\n -")
        self.fails("InvalidText", (0, 1), read_track, "track")
        self.fails("InvalidText", (0, 1), read_track, "track ")
        self.fails("InvalidText", (0, 1), read_track, "track  -")
        self.fails("InvalidText", (0, 1), read_track, "track -\n")
        self.fails("InvalidText", (0, 1), read_track, "track +- -")
        self.fails("InvalidText", (0, 2), read_track, "track - ")
        self.fails("InvalidText", (0, 2), read_track, "track - -")
        self.fails("InvalidText", (0, 2), read_track, "track +-- x y")

    def test_there_and_back(self):
        for bases in line_samples.plans():
            line = "track " + plain_lines.track(bases)
            self.gives(line, track_line, bases)
            self.gives(bases, read_track, line)

    def test_near_lines(self):
        for bases in line_samples.plans(3, 2, 8):
            for text in text_samples.near_texts(track_line(bases), text_samples.MORE + ("+--", "track", "++---", "+", "--")):
                self.looked_at(text)

    def test_no_tracks(self):
        for thing in line_samples.NO_TRACKS:
            if isinstance(thing, str):
                self.looked_at("track " + thing)
                self.looked_at(thing + " -")

    def test_refusals(self):
        self.refuses_each(track_line, ((0, 1, 0),), {"bases": line_samples.NO_PLANS})
        self.refuses_each(read_track, ("track -",), {"text": samples.NO_TEXTS})
        self.refuses("text", read_track, ("track", "-"))
