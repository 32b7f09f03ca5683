"""Line plans as objects."""
from sincemarks.chains import chain_of
from sincemarks.grafts import line_of
from sincemarks.growing import grown_base, grown_plan
from sincemarks.kinds import is_number
from sincemarks.linecounts import line_reads, line_writes, parts_of
from sincemarks.numbering import plan_number
from sincemarks.tracks import bases_from, mirrored, require_line_plan, track_of
from sincemarks.traffics import traffic_of
from sincemarks.usable import require


class Line:
    """A line plan."""

    def __init__(self, bases):
        require_line_plan(bases, "bases")
        self._bases = bases

    def __eq__(self, other):
        return isinstance(other, Line) and self._bases == other._bases

    def __call__(self, version):
        return chain_of(line_of(len(self._bases)), self._bases, version)

    def plan(self):
        """The line plan."""
        return self._bases

    def track(self):
        """The track of the line plan."""
        return track_of(self._bases)

    def reads(self):
        """How many sheets each version reads, from version 0 on."""
        return line_reads(self._bases)

    def writes(self):
        """By how many sheets each change is held, from change 1 on."""
        return line_writes(self._bases)

    def place(self):
        """The number of the line plan among those of as many changes."""
        return plan_number(self._bases)

    def mirror(self):
        """The line plan whose tree has both sides exchanged everywhere."""
        return Line(mirrored(self._bases))

    def parts(self):
        """The plan ahead and the plan behind, unless there are no changes."""
        ahead, behind = parts_of(self._bases)
        return (Line(ahead), Line(behind))

    def traffic(self, costs, asks):
        """What writing the changes and asking the versions costs."""
        return traffic_of(self._bases, costs, asks)

    def fits(self, width, *, reach=40):
        """Whether no writes are above width and no reads above reach."""
        require(is_number(width), "width")
        require(is_number(reach), "reach")
        return max((0,) + self.writes()) <= width and max(self.reads()) <= reach

    def line_chains(self):
        """The chains of the versions from 1 on, one by one."""
        version = 1
        # A Grown may have grown since the last chain was asked for.
        while version <= len(self._bases):
            yield chain_of(line_of(len(self._bases)), self._bases, version)
            version += 1

    @staticmethod
    def traced(track):
        """The Line with this track."""
        return Line(bases_from(track))


class Grown(Line):
    """A line plan whose bases stay as they are while the line grows."""

    def __init__(self, reach, many):
        super().__init__(grown_plan(reach, many))
        self._reach = reach

    def grow(self):
        """Add the next version; its base."""
        base = grown_base(self._reach, len(self._bases) + 1)
        self._bases = self._bases + (base,)
        return base
