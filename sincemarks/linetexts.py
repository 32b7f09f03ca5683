"""Line plans as lines, by their tracks."""
from sincemarks.errors import InvalidText
from sincemarks.tracks import bases_from, is_track, track_of
from sincemarks.usable import require


def track_line(bases):
    """The word track and the track of a line plan."""
    return f"track {track_of(bases)}"


def read_track(text):
    """The line plan with this line; InvalidText tells from which word on it is none."""
    require(isinstance(text, str), "text")
    words = text.split(" ")
    if words[0] != "track":
        raise InvalidText(0, 0)
    if len(words) < 2 or not is_track(words[1]):
        raise InvalidText(0, 1)
    if len(words) > 2:
        raise InvalidText(0, 2)
    return bases_from(words[1])
