"""Logs that are poured together, as another form of line plans."""
from sincemarks.chains import chain_in
from sincemarks.kinds import are_numbers, is_number
from sincemarks.linecounts import line_reads, line_writes
from sincemarks.usable import require


def is_pouring(thing):
    """Whether thing tells for each entry how many of the standing runs are poured together with it."""
    if not are_numbers(thing):
        return False
    standing = 0
    for many in thing:
        if many > standing:
            return False
        standing += 1 - many
    return True


def pouring_of(bases):
    """The pouring by which the standing runs are the sheets of the chains of a line plan."""
    reads = line_reads(bases)
    return tuple([before + 1 - after for before, after in zip(reads, reads[1:])])


def plan_poured(pouring):
    """The line plan with this pouring."""
    require(is_pouring(pouring), "pouring")
    bases = []
    # The last entries of the standing runs, the eldest first.
    lasts = []
    for index, many in enumerate(pouring):
        lasts = lasts[:len(lasts) - many]
        bases.append(lasts[-1] if lasts else 0)
        lasts.append(index + 1)
    return tuple(bases)


def standing_after(pouring, number):
    """The runs (first entry, last entry) that stand after so many entries, the eldest first."""
    bases = plan_poured(pouring)
    require(is_number(number) and number <= len(pouring), "number")
    return tuple([(bases[last - 1] + 1, last) for last in reversed(chain_in(bases, number))])


def poured_counts(pouring):
    """For each entry, how many written runs hold it."""
    return line_writes(plan_poured(pouring))
