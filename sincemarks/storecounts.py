"""Writes and reads of stores, and stores without what nobody reads."""
from sincemarks.storekinds import require_store


def writes_of(history, store):
    """By how many sheets each change is held, from change 1 on."""
    require_store(history, store)
    held = [change for sheet in store[0] for change in sheet]
    return tuple([held.count(change) for change in range(1, len(history) + 1)])


def reads_of(history, store):
    """How many sheets each version reads, from version 0 on."""
    require_store(history, store)
    return tuple([len(numbers) for numbers in store[1]])


def lean(history, store):
    """The store without the sheets that no version reads."""
    require_store(history, store)
    sheets, read = store
    kept = sorted({number for numbers in read for number in numbers})
    places = {number: place for place, number in enumerate(kept)}
    numbered = [tuple([places[number] for number in numbers]) for numbers in read]
    return (tuple([sheets[number] for number in kept]), tuple(numbered))
