"""Shapes as words."""
from sincemarks.errors import InvalidText
from sincemarks.shapes import is_shape
from sincemarks.usable import require
from sincemarks.words import integer_in


def shape_word(shape):
    """The shape as one word."""
    require(is_shape(shape), "shape")
    if len(shape) == 0:
        return "-"
    return ",".join([_triple_word(many, length, inner) for many, length, inner in shape])


def _triple_word(many, length, inner):
    return f"{many}x{length}({shape_word(inner)})" if inner else f"{many}x{length}"


def read_shape(text):
    """The shape with this word; InvalidText(0, 0) if there is none."""
    require(isinstance(text, str), "text")
    shape = () if text == "-" else _shape_in(text)
    if shape is None:
        raise InvalidText(0, 0)
    return shape


def _shape_in(text):
    """The shape with this word, None if there is none; () has none here."""
    if "\n" in text:
        return None
    words, signs = _parted(text)
    # The triples read so far, outside of all brackets and within each one that is open.
    levels = [[]]
    closed = False
    for word, sign in zip(words, signs + [""]):
        # Behind a bracket that is closed stands no word, and none is opened.
        if closed and (word != "" or sign == "("):
            return None
        if not closed:
            levels[-1].append(_head_in(word))
        if levels[-1][-1] is None:
            return None
        if sign == "(":
            levels.append([])
        closed = sign == ")"
        if closed and len(levels) == 1:
            return None
        if closed:
            inner = tuple(levels.pop())
            many, length, _ = levels[-1].pop()
            levels[-1].append((many, length, inner))
    return tuple(levels[0]) if len(levels) == 1 else None


def _parted(text):
    """The brackets and commas of a text without newlines, and the words ahead of, between and behind them."""
    lines = text
    for sign in "(,)":
        lines = lines.replace(sign, f"\n{sign}\n")
    parts = lines.split("\n")
    return (parts[0::2], parts[1::2])


def _head_in(word):
    """The triple of a word without brackets, None if there is none."""
    many, _, length = word.partition("x")
    head = (integer_in(many), integer_in(length), ())
    return head if is_shape((head,)) else None
