"""Histories and shapes, with a width, as objects."""
from sincemarks.exchanging import as_line
from sincemarks.grafts import grafted
from sincemarks.historykinds import is_history, is_version
from sincemarks.kinds import is_natural
from sincemarks.pairs import least_reach
from sincemarks.partings import parting_of
from sincemarks.rooms import rooms_of
from sincemarks.shapes import is_shape, shape_depth, shape_fits, shape_reach, shape_size, shape_weight, unfolded
from sincemarks.shapetexts import shape_word
from sincemarks.usable import require
from sincemarks.weights import fits_level, forest_weight, weight_of, weights_of


class Weighed:
    """A history that is weighed within a width."""

    def __init__(self, history, width):
        require(is_history(history), "history")
        require(is_natural(width), "width")
        self._history = history
        self._width = width
        self._weights = weights_of(history, width)
        self._forest = forest_weight(history, width)

    def __len__(self):
        return len(self._history)

    def __iter__(self):
        return iter(self._weights)

    def __eq__(self, other):
        return isinstance(other, Weighed) and self._history == other._history and self._width == other._width

    @property
    def forest(self):
        """The weight of the history, as a forest."""
        return self._forest

    def weight(self, version):
        """The weight of a version from 1 on."""
        return weight_of(self._history, self._width, version)

    def fits(self, reach):
        """Whether the history can be kept with this reach."""
        return fits_level(self._history, self._width, reach)

    def least(self):
        """The least reach with which the history can be kept, 0 without changes."""
        return least_reach(self._history, self._width)

    def rooms(self, reach):
        """The pairs (room, spare) of all versions from 0 on, the room of 0 being None."""
        return rooms_of(self._history, self._width, reach)

    def lined(self, version):
        """The same with a line of the same weight in place of the branch of a version from 1 on."""
        return Weighed(as_line(self._history, self._width, version), self._width)

    def hung(self, version, other):
        """This with the history of other, of the same width, hung below version."""
        require(is_version(self._history, version), "version")
        require(self._is_like(other), "other")
        return Weighed(grafted(self._history, version, other._history), self._width)

    def parted(self, other):
        """A line, and a reach, with which just one of this and other can be kept; None if they weigh the same."""
        require(self._is_like(other), "other")
        return parting_of(self._width, self._history, other._history)

    def _is_like(self, other):
        return isinstance(other, Weighed) and other._width == self._width


class Far:
    """A shape with a width."""

    def __init__(self, width, shape):
        require(is_natural(width), "width")
        require(is_shape(shape), "shape")
        self._width = width
        self._shape = shape

    def __eq__(self, other):
        return isinstance(other, Far) and self._width == other._width and self._shape == other._shape

    def size(self):
        """How many versions there are."""
        return shape_size(self._shape)

    def weight(self):
        """The weight of the forest."""
        return shape_weight(self._width, self._shape)

    def depth(self):
        """The greatest number of versions on a way downwards."""
        return shape_depth(self._shape)

    def fits(self, reach):
        """Whether the history can be kept with this reach."""
        return shape_fits(self._width, reach, self._shape)

    def least(self):
        """The least reach with which the history can be kept, 0 without changes."""
        return shape_reach(self._width, self._shape)

    def near(self):
        """The history itself, of at most forty versions, as a Weighed."""
        return Weighed(unfolded(self._shape), self._width)

    def beside(self, other):
        """This shape and that of other, of the same width, side by side."""
        require(isinstance(other, Far) and other._width == self._width, "other")
        return Far(self._width, self._shape + other._shape)

    def under(self, length):
        """This shape below a line of so many versions."""
        require(is_natural(length), "length")
        return Far(self._width, ((1, length, self._shape),))

    def copied(self, many):
        """So many copies of this shape, side by side."""
        require(is_natural(many), "many")
        return Far(self._width, tuple([(many * copies, length, inner) for copies, length, inner in self._shape]))

    def told(self):
        """The shape as one word."""
        return shape_word(self._shape)
