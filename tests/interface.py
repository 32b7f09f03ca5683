"""The interface as the document lists it: modules, names, parameters, fields."""

MODULES = {
    "kinds": {
        "is_integer": ("thing",),
        "is_number": ("thing",),
        "is_natural": ("thing",),
        "is_set": ("thing",),
        "is_letters": ("thing",),
    },
    "worthkinds": {
        "is_kind": ("thing",),
        "is_change": ("kind", "thing"),
        "blank_of": ("kind",),
        "need_of": ("kind",),
    },
    "thens": {
        "then": ("kind", "one", "other"),
        "put_together": ("kind", "changes"),
    },
    "kindchecker": {"lets_kind": ("thing",)},
    "historykinds": {"is_history": ("thing",)},
    "historychecker": {"lets_history": ("thing",)},
    "elders": {
        "many_of": ("history",),
        "parent_of": ("history", "version"),
        "elders_of": ("history", "version"),
        "path_of": ("history", "version"),
        "is_elder": ("history", "one", "other"),
        "meet_of": ("history", "one", "other"),
        "depth_of": ("history", "version"),
        "depth_in": ("history",),
    },
    "branches": {
        "children_of": ("history", "version"),
        "branch_of": ("history", "version"),
        "leaves_of": ("history",),
        "is_line": ("history",),
    },
    "cuttings": {
        "left_on": ("history", "versions"),
        "left_out": ("history", "version"),
        "branch_alone": ("history", "version"),
    },
    "grafts": {
        "line_of": ("many",),
        "beside": ("one", "other"),
        "grafted": ("history", "version", "other"),
        "replaced": ("history", "version", "other"),
    },
    "states": {
        "state_of": ("kind", "history", "changes", "version"),
        "states_of": ("kind", "history", "changes"),
        "between": ("kind", "history", "changes", "one", "other"),
        "taken_over": ("kind", "history", "changes", "one", "other"),
        "changes_on": ("kind", "history", "changes", "versions"),
    },
    "changetexts": {
        "change_word": ("kind", "change"),
        "read_change": ("kind", "text"),
    },
    "historytexts": {
        "history_line": ("history",),
        "read_history": ("text",),
        "kind_line": ("kind",),
        "read_kind": ("text",),
    },
}

PARAMETERS = {name: names for functions in MODULES.values() for name, names in functions.items()}

# Each error with its family and its fields.
ERRORS = {
    "InvalidPaper": ("PaperError", ("word", "at")),
    "NotUsable": ("BookError", ("word", "at")),
    "Faulty": ("BookError", ("version", "change")),
    "Unserved": ("BookError", ("version",)),
    "Unkept": ("BookError", ("wall",)),
    "InvalidEvent": ("LiveError", ("event", "reason")),
    "NothingToUndo": ("LiveError", ("steps",)),
    "InvalidText": ("TextError", ("line", "field")),
    "InvalidRow": ("TextError", ("row",)),
}

FAMILIES = ("PaperError", "BookError", "LiveError", "TextError")
