"""Papers that lead from a right store to a plan."""
from sincemarks.faults import require_right
from sincemarks.goods import cut_store, least_good, least_signs, parted_by
from sincemarks.historykinds import all_later


def lead_paper(history, store):
    """Steps, each from a good version of a part, with the signs of this."""
    require_right(history, store)
    paper = []
    parts = [(0, all_later(history))]
    while parts:
        ground, part = parts.pop()
        if part:
            cut = cut_store(store, part)
            version = least_good(history, cut, part)
            holders, readers = least_signs(history, cut, part, version)
            paper.append((ground, version, holders, readers))
            rest, below = parted_by(history, part, version)
            parts.extend([(ground, rest), (version, below)])
    return tuple(paper)
