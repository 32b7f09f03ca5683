"""A plain live book, made step by step by the words of the document, and what is an event of it."""
from tests import plain, plain_bounds, plain_stores
from tests.plain_bounds import is_up_to
from tests.plain_stores import later

NAMES = ("commit", "pledge", "take", "mend", "drop", "graft", "bound", "usual")


def is_version(many, thing, least=0):
    return type(thing) is int and least <= thing <= many


def is_history(thing):
    return type(thing) is tuple and all(type(parent) is int and 0 <= parent <= k for k, parent in enumerate(thing))


def is_event(kind, many, thing):
    """Whether thing is an event of the kind for many changes; many is None for any number."""
    most = float("inf") if many is None else many
    if type(thing) is not tuple or not thing or type(thing[0]) is not str or thing[0] not in NAMES:
        return False
    name, parts = thing[0], thing[1:]
    if len(parts) != {"commit": 2, "pledge": 4, "take": 2, "mend": 2, "drop": 1, "graft": 3, "bound": 3, "usual": 2}[name]:
        return False
    if name in ("pledge", "bound", "usual") and not (is_up_to(999, parts[-2]) and is_up_to(999, parts[-1])):
        return False
    if name != "usual" and not is_version(most, parts[0], 1 if name in ("mend", "drop", "bound") else 0):
        return False
    if name in ("commit", "pledge", "mend"):
        return plain.is_change(kind, parts[1])
    if name == "take":
        return is_version(most, parts[1])
    if name == "graft":
        return (
            is_history(parts[1]) and len(parts[1]) > 0 and plain.is_tuple_of(parts[2], len(parts[1]))
            and all(plain.is_change(kind, change) for change in parts[2])
        )
    return True


def many_after(many, event):
    return many + {"commit": 1, "pledge": 1, "take": 1, "drop": -1, "graft": len(event[2]) if event[0] == "graft" else 0}.get(
        event[0], 0
    )


def is_kind(thing):
    if type(thing) is not tuple or not thing or type(thing[0]) is not str:
        return False
    if thing[0] in ("sum", "peak", "set", "last", "tail", "text"):
        return len(thing) == 1
    least, most = {"affine": (2, 999), "square": (2, 999), "turn": (1, 9)}.get(thing[0], (1, 0))
    return len(thing) == 2 and type(thing[1]) is int and least <= thing[1] <= most


def is_log(thing):
    if not plain.is_tuple_of(thing, 5):
        return False
    kind, roof, width, reach, events = thing
    if not (is_kind(kind) and is_up_to(999, roof) and is_up_to(999, width) and is_up_to(roof, reach)):
        return False
    if type(events) is not tuple:
        return False
    many = 0
    for event in events:
        if not is_event(kind, many, event):
            return False
        many = many_after(many, event)
    return True


class Book:
    """Versions are known by names that are never used again, so that a drop changes no name."""

    def __init__(self, kind, roof, width, reach):
        self.kind, self.roof, self.start = kind, roof, (width, reach)
        self.usual = (width, reach)
        self.names = []
        self.parent, self.change, self.pair = {}, {}, {}
        self.made = 0
        self.bases, self.wrote = {}, ()

    def copy(self):
        other = Book(self.kind, self.roof, *self.start)
        other.usual, other.names, other.made = self.usual, list(self.names), self.made
        other.parent, other.change, other.pair = dict(self.parent), dict(self.change), dict(self.pair)
        other.bases, other.wrote = dict(self.bases), self.wrote
        return other

    def name(self, version):
        return self.names[version - 1] if version else 0

    def history(self):
        numbers = {0: 0, **{name: k for k, name in enumerate(self.names, start=1)}}
        return tuple(numbers[self.parent[name]] for name in self.names)

    def changes(self):
        return tuple(self.change[name] for name in self.names)

    def bounds(self):
        return self.roof, tuple(self.pair[name] for name in self.names)

    def told(self):
        return self.history(), self.changes(), self.bounds(), self.usual

    def rows(self):
        return plain_bounds.rows_of(self.history(), self.bounds())

    def bases_now(self):
        return plain_stores.bases_by(self.history(), tuple(row[-1] for row in self.rows()))

    def add(self, above, change, pair):
        self.made += 1
        self.names.append(self.made)
        self.parent[self.made], self.change[self.made], self.pair[self.made] = above, change, pair

    def apply(self, event):
        """What an event does to names, changes and pairs."""
        name, parts = event[0], event[1:]
        if name == "commit":
            self.add(self.name(parts[0]), parts[1], self.usual)
        elif name == "pledge":
            self.add(self.name(parts[0]), parts[1], parts[2:])
        elif name == "take":
            history, changes = self.history(), self.changes()
            meet = plain.meet(history, *parts)
            self.add(self.name(parts[0]), plain.way(self.kind, history, changes, meet, parts[1]), self.usual)
        elif name == "mend":
            self.change[self.name(parts[0])] = parts[1]
        elif name == "drop":
            self.drop(self.name(parts[0]))
        elif name == "graft":
            below = [self.name(parts[0])]
            for parent, change in zip(parts[1], parts[2]):
                self.add(below[parent], change, self.usual)
                below.append(self.made)
        elif name == "bound":
            self.pair[self.name(parts[0])] = parts[1:]
        else:
            self.usual = parts

    def drop(self, gone):
        for name in self.names:
            if self.parent[name] == gone:
                self.parent[name] = self.parent[gone]
                self.change[name] = plain.then(self.kind, self.change[gone], self.change[name])
        self.names.remove(gone)

    def reason(self, many, event):
        """The first reason to refuse the event, where there are many that are not undone."""
        if not is_event(self.kind, len(self.names), event):
            return "form"
        if many >= 40:
            return "many"
        if many_after(len(self.names), event) > 24:
            return "size"
        if event[0] in ("pledge", "bound", "usual") and event[-1] > self.roof:
            return "roof"
        other = self.copy()
        other.apply(event)
        return "bounds" if plain_bounds.top(other.history(), other.bounds()) > self.roof else None

    def do(self, event):
        before = self.bases
        self.apply(event)
        bases = self.bases_now()
        self.bases = {name: self.name(base) for name, base in zip(self.names, bases)}
        written = {name for name in self.names if name not in before or before[name] != self.bases[name]}
        if event[0] == "mend":
            sheets = [plain_stores.sheet(self.history(), bases, version) for version in later(bases)]
            written |= {name for name, sheet in zip(self.names, sheets) if event[1] in sheet}
        self.wrote = tuple(k for k, name in enumerate(self.names, start=1) if name in written)
