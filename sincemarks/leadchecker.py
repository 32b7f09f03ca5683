"""The checker of papers that lead from a right store to a plan."""
from sincemarks.errors import InvalidPaper
from sincemarks.faults import require_right
from sincemarks.goods import cut_store, parted_by, signs_for
from sincemarks.historykinds import all_later
from sincemarks.kinds import is_number


def lets_lead(history, store, thing):
    """The bases that a paper makes; InvalidPaper tells why thing is no paper."""
    require_right(history, store)
    if not isinstance(thing, tuple) or len(thing) != len(history):
        raise InvalidPaper("shape", -1)
    parts = {0: all_later(history)}
    bases = {}
    for index, step in enumerate(thing):
        word = _step_fault(history, store, parts, step)
        if word is not None:
            raise InvalidPaper(word, index)
        ground, version = step[:2]
        bases[version] = ground
        parts[ground], parts[version] = parted_by(history, parts[ground], version)
    return tuple([bases[version] for version in all_later(history)])


def _step_fault(history, store, parts, step):
    """The word for the first thing that is wrong with a step, None if it is right."""
    if not isinstance(step, tuple) or len(step) != 4:
        return "step"
    ground, version, holders, readers = step
    if not is_number(ground) or ground not in parts:
        return "ground"
    part = parts[ground]
    if not is_number(version) or version not in part:
        return "version"
    for_way, for_branch = signs_for(history, cut_store(store, part), part, version)
    if not _are_among(for_way, holders):
        return "holders"
    if not _are_among(for_branch, readers):
        return "readers"
    return None


def _are_among(choices, thing):
    """Whether thing has one number out of each of choices."""
    if not isinstance(thing, tuple) or len(thing) != len(choices):
        return False
    return all([is_number(number) and number in chosen for number, chosen in zip(thing, choices)])
