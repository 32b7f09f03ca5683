"""Good versions of right stores, and of parts of them."""
from sincemarks.branches import branch_of
from sincemarks.elders import path_of
from sincemarks.faults import require_right
from sincemarks.historykinds import all_later, is_version
from sincemarks.storekinds import require_store
from sincemarks.usable import require


def is_good(history, store, version):
    """Whether the version is good; 0 is not."""
    return good_signs(history, store, version) is not None


def good_version(history, store):
    """The least good version, None without changes."""
    require_right(history, store)
    cut = cut_store(store, all_later(history))
    return least_good(history, cut, all_later(history))


def good_signs(history, store, version):
    """The least numbers of sheets by which the version is good, None if it is not."""
    require_store(history, store)
    require(is_version(history, version), "version")
    require_right(history, store)
    if version == 0:
        return None
    part = all_later(history)
    return least_signs(history, cut_store(store, part), part, version)


def cut_store(store, part):
    """The store with its sheets cut to a part; those that no version of it reads become empty."""
    sheets, read = store
    known = [number for version in part for number in read[version]]
    cuts = [_cut(sheet, part) if number in known else () for number, sheet in enumerate(sheets)]
    return (tuple(cuts), read)


def _cut(sheet, part):
    return tuple([change for change in sheet if change in part])


def signs_for(history, cut, part, version):
    """Which sheets of a cut store may stand for each change on the way, and for each reader."""
    sheets, read = cut
    way = _cut(path_of(history, version), part)
    branch = _cut(branch_of(history, version), part)
    filled = [number for number, sheet in enumerate(sheets) if sheet]
    ending = [number for number in filled if sheets[number][-1] in branch]
    within = [number for number in filled if _cut(sheets[number], way) == sheets[number]]
    holders = [tuple([number for number in ending if at in sheets[number]]) for at in way]
    readers = [tuple([number for number in within if number in read[at]]) for at in branch]
    return (holders, readers)


def least_signs(history, cut, part, version):
    """The least of the sheets that may stand for each, None if there are none for one."""
    holders, readers = signs_for(history, cut, part, version)
    if () in holders or () in readers:
        return None
    return (tuple([min(numbers) for numbers in holders]), tuple([min(numbers) for numbers in readers]))


def least_good(history, cut, part):
    """The least good version of a part, None if it is empty."""
    for version in part:
        if least_signs(history, cut, part, version) is not None:
            return version
    return None


def parted_by(history, part, version):
    """What a part keeps without the branch of version, and what this has below it."""
    branch = branch_of(history, version)
    rest = tuple([at for at in part if at not in branch])
    below = tuple([at for at in part if at in branch and at != version])
    return (rest, below)
