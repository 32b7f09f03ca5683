"""The plan to which a right store leads."""
from sincemarks.leadchecker import lets_lead
from sincemarks.leadpapers import lead_paper


def led(history, store):
    """A plan with no writes of a change and no reads of a version greater than in the store."""
    return lets_lead(history, store, lead_paper(history, store))
