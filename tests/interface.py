"""The interface as the document lists it: modules, names, parameters, fields."""

MODULES = {
    "kinds": {
        "is_integer": ("thing",),
        "is_number": ("thing",),
        "is_natural": ("thing",),
        "is_set": ("thing",),
        "is_letters": ("thing",),
    },
    "worthkinds": {
        "is_kind": ("thing",),
        "is_change": ("kind", "thing"),
        "blank_of": ("kind",),
        "need_of": ("kind",),
    },
    "thens": {
        "then": ("kind", "one", "other"),
        "put_together": ("kind", "changes"),
    },
    "kindchecker": {"lets_kind": ("thing",)},
    "historykinds": {"is_history": ("thing",)},
    "historychecker": {"lets_history": ("thing",)},
    "elders": {
        "many_of": ("history",),
        "parent_of": ("history", "version"),
        "elders_of": ("history", "version"),
        "path_of": ("history", "version"),
        "is_elder": ("history", "one", "other"),
        "meet_of": ("history", "one", "other"),
        "depth_of": ("history", "version"),
        "depth_in": ("history",),
    },
    "branches": {
        "children_of": ("history", "version"),
        "branch_of": ("history", "version"),
        "leaves_of": ("history",),
        "is_line": ("history",),
    },
    "cuttings": {
        "left_on": ("history", "versions"),
        "left_out": ("history", "version"),
        "branch_alone": ("history", "version"),
    },
    "grafts": {
        "line_of": ("many",),
        "beside": ("one", "other"),
        "grafted": ("history", "version", "other"),
        "replaced": ("history", "version", "other"),
    },
    "states": {
        "state_of": ("kind", "history", "changes", "version"),
        "states_of": ("kind", "history", "changes"),
        "between": ("kind", "history", "changes", "one", "other"),
        "taken_over": ("kind", "history", "changes", "one", "other"),
        "changes_on": ("kind", "history", "changes", "versions"),
    },
    "changetexts": {
        "change_word": ("kind", "change"),
        "read_change": ("kind", "text"),
    },
    "historytexts": {
        "history_line": ("history",),
        "read_history": ("text",),
        "kind_line": ("kind",),
        "read_kind": ("text",),
    },
    "storekinds": {"is_store": ("history", "thing")},
    "storechecker": {"lets_store": ("history", "thing")},
    "storecounts": {
        "writes_of": ("history", "store"),
        "reads_of": ("history", "store"),
        "lean": ("history", "store"),
    },
    "faults": {
        "fault_of": ("history", "store"),
        "is_right": ("history", "store"),
        "manner_of": ("history", "store"),
    },
    "answers": {
        "sheet_worth": ("kind", "changes", "sheet"),
        "answer_of": ("kind", "history", "changes", "store", "version"),
    },
    "baseskinds": {
        "is_bases": ("history", "thing"),
        "is_plan": ("history", "thing"),
        "crossing_of": ("history", "bases"),
    },
    "chains": {
        "chain_of": ("history", "bases", "version"),
        "sheet_of": ("history", "bases", "version"),
        "reads_by": ("history", "bases"),
        "writes_by": ("history", "bases"),
        "holders_of": ("history", "bases", "change"),
        "readers_of": ("history", "bases", "version"),
        "store_by": ("history", "bases"),
    },
    "goods": {
        "is_good": ("history", "store", "version"),
        "good_version": ("history", "store"),
        "good_signs": ("history", "store", "version"),
    },
    "leading": {"led": ("history", "store")},
    "leadchecker": {"lets_lead": ("history", "store", "thing")},
    "leadpapers": {"lead_paper": ("history", "store")},
    "storetexts": {
        "store_lines": ("history", "store"),
        "read_store": ("history", "lines"),
        "bases_line": ("history", "bases"),
        "read_bases": ("history", "text"),
    },
    "heights": {
        "is_heights": ("history", "thing"),
        "bases_by": ("history", "heights"),
        "heights_of": ("history", "bases"),
        "records_of": ("history", "heights", "version"),
        "open_at": ("history", "heights", "version"),
        "open_row": ("history", "heights", "version"),
    },
    "rows": {
        "is_row": ("thing",),
        "merged": ("rows",),
        "stepped": ("width", "floor", "row"),
        "unlike_at": ("one", "other"),
    },
    "boundkinds": {"is_bounds": ("history", "thing")},
    "boundchecker": {"lets_bounds": ("history", "thing")},
    "boundmaking": {
        "level_bounds": ("history", "width", "reach"),
        "floors_of": ("history", "bounds"),
        "raised_bounds": ("history", "bounds", "many"),
        "one_bound": ("history", "bounds", "version", "width", "reach"),
    },
    "keeping": {
        "keeps": ("history", "bounds", "store"),
        "broken_at": ("history", "bounds", "store"),
    },
    "walks": {
        "rows_of": ("history", "bounds"),
        "walk_heights": ("history", "bounds"),
        "top_of": ("history", "bounds"),
        "can_keep": ("history", "bounds"),
        "plan_for": ("history", "bounds"),
    },
    "margins": {
        "margin_of": ("history", "bounds"),
        "lifted_reach": ("history", "bounds", "version"),
        "lifted_width": ("history", "bounds", "version"),
    },
    "walls": {
        "rows_on": ("history", "bounds", "versions"),
        "walled": ("history", "bounds", "versions"),
        "wall_in": ("history", "bounds"),
    },
    "keeppapers": {"keep_paper": ("history", "bounds")},
    "keepchecker": {"lets_keep": ("history", "bounds", "thing")},
    "boundtexts": {
        "bounds_line": ("history", "bounds"),
        "read_bounds": ("history", "text"),
        "heights_line": ("history", "heights"),
        "read_heights": ("history", "text"),
    },
    "choosing": {
        "choose": ("top", "few"),
        "capacity": ("width", "reach"),
    },
    "rownumbers": {
        "number_of": ("width", "row"),
        "row_of": ("width", "number"),
        "next_row": ("width", "row"),
    },
    "joining": {
        "joined": ("width", "one", "other"),
        "joined_all": ("width", "numbers"),
        "joined_many": ("width", "number", "many"),
    },
    "weights": {
        "weight_of": ("history", "width", "version"),
        "weights_of": ("history", "width"),
        "forest_weight": ("history", "width"),
        "fits_level": ("history", "width", "reach"),
    },
    "pairs": {
        "least_reach": ("history", "width"),
        "least_width": ("history", "reach"),
        "pairs_of": ("history",),
    },
    "exchanging": {
        "as_line": ("history", "width", "version"),
        "alike_within": ("width", "one", "other"),
    },
    "partings": {"parting_of": ("width", "one", "other")},
    "partingchecker": {"lets_parting": ("width", "one", "other", "thing")},
    "rooms": {
        "room_of": ("history", "width", "reach", "version"),
        "spare_of": ("history", "width", "reach", "version"),
        "rooms_of": ("history", "width", "reach"),
    },
    "shapes": {
        "is_shape": ("thing",),
        "shape_size": ("shape",),
        "shape_weight": ("width", "shape"),
        "shape_depth": ("shape",),
        "shape_fits": ("width", "reach", "shape"),
        "shape_reach": ("width", "shape"),
        "shape_of": ("history",),
        "unfolded": ("shape",),
    },
    "shapetexts": {
        "shape_word": ("shape",),
        "read_shape": ("text",),
    },
    "tracks": {
        "is_line_plan": ("thing",),
        "is_track": ("thing",),
        "track_of": ("bases",),
        "bases_from": ("track",),
        "turns_of": ("track",),
        "mirrored": ("bases",),
    },
    "linecounts": {
        "joined_plans": ("one", "other"),
        "cut_of": ("bases",),
        "parts_of": ("bases",),
        "line_reads": ("bases",),
        "line_writes": ("bases",),
    },
    "counting": {
        "plans_many": ("many",),
        "plans_within": ("many", "width", "reach"),
    },
    "numbering": {
        "plan_number": ("bases",),
        "plan_at": ("many", "number"),
    },
    "leastcounts": {
        "sorted_least": ("many", "reach"),
        "least_sum": ("many", "reach"),
        "least_greatest": ("many", "reach"),
    },
    "growing": {
        "grown_base": ("reach", "number"),
        "grown_chain": ("reach", "number"),
        "grown_writes": ("reach", "change", "tip"),
        "grown_holders": ("reach", "change", "tip", "many"),
        "grown_greatest": ("reach", "tip"),
        "grown_plan": ("reach", "many"),
    },
    "bestplans": {
        "full_plan": ("width", "reach"),
        "best_plan": ("many", "reach"),
        "best_for_writes": ("many", "width"),
    },
    "traffics": {
        "traffic_of": ("bases", "costs", "asks"),
        "least_traffic": ("costs", "asks"),
        "cheapest_plan": ("costs", "asks"),
    },
    "prices": {"price_table": ("costs", "asks")},
    "pricechecker": {"lets_prices": ("costs", "asks", "thing")},
    "linetexts": {
        "track_line": ("bases",),
        "read_track": ("text",),
    },
    "sheetfilling": {"filled": ("kind", "history", "changes", "bases")},
    "sheetchecker": {"lets_sheets": ("kind", "history", "changes", "bases", "thing")},
    "asking": {
        "asked": ("kind", "history", "bases", "sheets", "version"),
        "asked_all": ("kind", "history", "bases", "sheets"),
    },
    "sheetpieces": {
        "pieces_of": ("history", "bases", "version"),
        "made_sheet": ("kind", "history", "changes", "bases", "sheets", "version"),
    },
    "mending": {
        "mend_order": ("history", "bases", "version"),
        "mend_cost": ("history", "bases", "version"),
        "mended": ("kind", "history", "changes", "bases", "sheets", "version", "change"),
    },
    "losses": {
        "spoiled_by": ("history", "bases", "versions"),
        "most_spoiled": ("history", "bases", "many"),
        "worst_lost": ("history", "bases", "many"),
    },
    "remaking": {
        "remake_cost": ("history", "bases", "versions"),
        "remade": ("kind", "history", "changes", "bases", "sheets", "versions"),
    },
    "shifting": {
        "rewritten": ("history", "one", "other"),
        "shifted": ("kind", "history", "changes", "one", "sheets", "other"),
    },
    "sheettexts": {
        "sheets_line": ("kind", "sheets"),
        "read_sheets": ("kind", "many", "text"),
    },
}

# Each class with its module, its base, and what is listed for it; "*" marks what goes by name alone.
CLASSES = {
    "Told": {
        "module": "historyclasses",
        "base": None,
        "parameters": ("kind", "history", "changes"),
        "methods": {
            "told": (),
            "state": ("version",),
            "way": ("one", "other"),
            "taken": ("one", "other"),
            "left": ("versions",),
            "put": ("version", "change"),
            "hung": ("version", "other"),
        },
        "properties": (),
        "signs": {"__len__": (), "__eq__": ("other",)},
    },
    "Numbers": {
        "module": "historyclasses",
        "base": "Told",
        "parameters": ("history", "changes"),
        "methods": {"gain": ("one", "other"), "highest": (), "lowest": ()},
        "properties": (),
        "signs": {},
    },
    "Store": {
        "module": "storeclasses",
        "base": None,
        "parameters": ("history", "sheets", "read"),
        "methods": {"with_sheet": ("sheet", "*by")},
        "properties": ("tree", "pair"),
        "signs": {
            "__len__": (), "__eq__": ("other",), "__contains__": ("thing",), "__add__": ("other",),
            "__call__": ("version",),
        },
    },
    "Based": {
        "module": "storeclasses",
        "base": "Store",
        "parameters": ("history", "bases"),
        "methods": {"rebased": ("version", "*base")},
        "properties": ("since",),
        "signs": {},
    },
    "Kept": {
        "module": "boundclasses",
        "base": None,
        "parameters": ("history", "bounds"),
        "methods": {
            "as_told": (),
            "plan": (),
            "row_at": ("version",),
            "slack": (),
            "kept_by": ("store",),
            "may": ("version", "width", "reach"),
            "bind": ("version", "width", "reach"),
        },
        "properties": (),
        "signs": {"__len__": (), "__iter__": (), "__eq__": ("other",)},
    },
    "Level": {
        "module": "boundclasses",
        "base": "Kept",
        "parameters": ("history", "width", "reach"),
        "methods": {"as_pair": (), "turn": ("width", "reach")},
        "properties": (),
        "signs": {},
    },
    "Weighed": {
        "module": "levelclasses",
        "base": None,
        "parameters": ("history", "width"),
        "methods": {
            "weight": ("version",),
            "fits": ("reach",),
            "least": (),
            "rooms": ("reach",),
            "lined": ("version",),
            "hung": ("version", "other"),
            "parted": ("other",),
        },
        "properties": ("forest",),
        "signs": {"__len__": (), "__iter__": (), "__eq__": ("other",)},
    },
    "Far": {
        "module": "levelclasses",
        "base": None,
        "parameters": ("width", "shape"),
        "methods": {
            "size": (),
            "weight": (),
            "depth": (),
            "fits": ("reach",),
            "least": (),
            "near": (),
            "beside": ("other",),
            "under": ("length",),
            "copied": ("many",),
            "told": (),
        },
        "properties": (),
        "signs": {"__eq__": ("other",)},
    },
    "Line": {
        "module": "lineclasses",
        "base": None,
        "parameters": ("bases",),
        "methods": {
            "plan": (),
            "track": (),
            "reads": (),
            "writes": (),
            "place": (),
            "mirror": (),
            "parts": (),
            "traffic": ("costs", "asks"),
            "fits": ("width", "*reach"),
            "line_chains": (),
        },
        "static": {"traced": ("track",)},
        "properties": (),
        "signs": {"__eq__": ("other",), "__call__": ("version",)},
    },
    "Grown": {
        "module": "lineclasses",
        "base": "Line",
        "parameters": ("reach", "many"),
        "methods": {"grow": ()},
        "properties": (),
        "signs": {},
    },
}

PARAMETERS = {name: names for functions in MODULES.values() for name, names in functions.items()}
# What is asked of a class itself.
PARAMETERS |= {name: names for told in CLASSES.values() for name, names in told.get("static", {}).items()}


def listed(class_name, word):
    """The parameters of a method or sign, which may be listed for a class above."""
    while class_name is not None:
        told = CLASSES[class_name]
        if word in told["methods"] or word in told["signs"]:
            return {**told["methods"], **told["signs"]}[word]
        class_name = told["base"]
    raise KeyError(word)


# Each error with its family and its fields.
ERRORS = {
    "InvalidPaper": ("PaperError", ("word", "at")),
    "NotUsable": ("BookError", ("word", "at")),
    "Faulty": ("BookError", ("version", "change")),
    "Unserved": ("BookError", ("version",)),
    "Unkept": ("BookError", ("wall",)),
    "InvalidEvent": ("LiveError", ("event", "reason")),
    "NothingToUndo": ("LiveError", ("steps",)),
    "InvalidText": ("TextError", ("line", "field")),
    "InvalidRow": ("TextError", ("row",)),
}

FAMILIES = ("PaperError", "BookError", "LiveError", "TextError")
