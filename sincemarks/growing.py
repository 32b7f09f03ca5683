"""Plans of lines whose bases stay as they are while the line grows."""
from sincemarks.kinds import is_natural, is_number
from sincemarks.leastcounts import least_greatest
from sincemarks.rownumbers import number_of, row_of
from sincemarks.rows import padded
from sincemarks.usable import require


def grown_base(reach, number):
    """The base of the version with this number, from 1 on."""
    require(is_natural(reach), "reach")
    require(is_natural(number), "number")
    return number_of(reach, row_of(reach, number)[:-1])


def grown_chain(reach, number):
    """The chain of the version with this number, () for 0."""
    require(is_natural(reach), "reach")
    require(is_number(number), "number")
    row = row_of(reach, number)
    return tuple([number_of(reach, row[:length]) for length in range(len(row), 0, -1)])


def grown_writes(reach, change, tip):
    """The writes of a change on the line of tip changes."""
    ahead, _, most = _parting(reach, change, tip)
    return most - ahead[-1]


def grown_holders(reach, change, tip, many):
    """The set of the holders of a change on the line of tip changes, or the least many if there are more."""
    ahead, place, most = _parting(reach, change, tip)
    require(is_number(many), "many")
    holders = []
    # The row of a holder is that of the version ahead of the change up to some place, and there one member more,
    # which is greater than what that row has there. The farther this place, the less the holder.
    for at in range(reach - 1, place - 1, -1):
        highest = most if at == place else ahead[at - 1]
        last = min(highest, ahead[at] + many - len(holders))
        members = range(ahead[at] + 1, last + 1)
        holders.extend([number_of(reach, ahead[:at] + (member,)) for member in members])
    return tuple(holders)


def _parting(reach, change, tip):
    """The row of the version ahead of the change, the first place where that of tip differs, and its member there.

    Both rows have 0 put behind them up to reach members.
    """
    require(is_natural(reach), "reach")
    require(is_natural(change), "change")
    require(is_number(tip) and tip >= change, "tip")
    ahead = padded(row_of(reach, change - 1), reach)
    end = padded(row_of(reach, tip), reach)
    place = 0
    while ahead[place] == end[place]:
        place += 1
    return (ahead, place, end[place])


def grown_greatest(reach, tip):
    """The greatest writes of all changes on the line of tip changes, 0 if there are none."""
    require(is_natural(reach), "reach")
    require(is_number(tip), "tip")
    return least_greatest(tip, reach)


def grown_plan(reach, many):
    """The bases of the versions 1 to many."""
    require(is_natural(reach), "reach")
    require(is_number(many), "many")
    return tuple([grown_base(reach, version) for version in range(1, many + 1)])
