"""What bases are, and which of them are plans."""
from sincemarks.elders import elders_of
from sincemarks.kinds import is_number
from sincemarks.usable import require


def is_base(history, version, thing):
    """Whether thing is an elder of version, so that it may be its base."""
    return is_number(thing) and thing in elders_of(history, version)


def is_bases(history, thing):
    """Whether thing has one elder for each version of history from 1 on."""
    if not isinstance(thing, tuple) or len(thing) != len(history):
        return False
    return all([is_base(history, index + 1, base) for index, base in enumerate(thing)])


def require_bases(history, bases):
    """Refuse bases unless they are bases of history."""
    require(is_bases(history, bases), "bases")


def is_plan(history, thing):
    """Whether thing is a plan of history."""
    return is_bases(history, thing) and crossing_of(history, thing) is None


def require_plan(history, thing, name):
    """Refuse the parameter of this name unless it is a plan of history."""
    require(is_plan(history, thing), name)


def crossing_of(history, bases):
    """The first pair of versions by which bases are no plan, None for a plan."""
    require_bases(history, bases)
    for version in range(1, len(history) + 1):
        base = bases[version - 1]
        # All elders of a version are on one way: of two, the lesser is an elder of the greater.
        between = [at for at in elders_of(history, version) if at > base]
        crossed = [at for at in between if bases[at - 1] < base]
        if crossed:
            return (min(crossed), version)
    return None
