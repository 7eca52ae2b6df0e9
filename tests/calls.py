"""One call or more of each function of the interface, with its arguments by the names that the document shows."""

PLAN = (
    ("draft", "sum", ("in", "old"), "out", (("fast", 0),)), ("quick", "guess", ("in",), "out", (("fast", 1),)),
    ("tell", "sum", ("out", "out"), "page", ()),
)
LOOSE = (
    ("a", "m", ("k",), "f", (("x", 1),)), ("b", "m", ("f",), "g", ()), ("c", "m", ("g",), "h", (("x", 0),)),
    ("d", "m", ("h",), "k", ()),
)
TWO = (("a", "m", (), "f", (("x", 1),)), ("b", "n", (), "f", (("y", 1),)))
COUNTS = (("in", "m"), ("old", "n"), ("out", "k"))
RUN = (PLAN, (), COUNTS)
FAST = (PLAN, ("fast",), (("in", "m"), ("out", "k")))
RUNS = (RUN, FAST)
SMALL = (((("p", "f", ("a",), "x", ()), ("q", "f", ("x",), "y", ())), (), (("a", "m"), ("x", "n"))),)
A, X, Y = (0, "a"), (0, "x"), (0, "y")
SEEN = ((A, X),)
WORLD = ((("m", 0), ("n", 3)), (("f", (0,), 1), ("f", (1,), 2), ("f", (2,), 2)), 5)
IN, OLD, PAGE, OUT = (0, "in"), (0, "old"), (0, "page"), (1, "out")
PAIRS = ((IN, OUT), (OLD, OUT))
WAITS = (("p", "q"),)
OTHER = (("p", "q"), ("q", "p"), WORLD, "y")
WRONG = (("q", "p"), WORLD, "y")

CALLS = {
    "steps": [
        ("is_condition", {"thing": (("a", 1),)}), ("is_step", {"thing": PLAN[0]}), ("is_plan", {"thing": PLAN}),
        ("holds", {"condition": (("a", 1), ("b", 0)), "variant": ("a",)}), ("running", {"plan": PLAN, "variant": ("fast",)}),
        ("step_of", {"plan": PLAN, "name": "tell"}), ("flags_in", {"plan": PLAN}), ("methods_in", {"plan": PLAN}),
        ("sheets_in", {"plan": PLAN}), ("variants_of", {"plan": PLAN}), ("made_at", {"plan": PLAN, "variant": ()}),
        ("counts_needed", {"plan": PLAN, "variant": ()}), ("maker", {"plan": PLAN, "variant": ("fast",), "sheet": "out"}),
        ("with_step", {"plan": PLAN[1:], "step": PLAN[0]}), ("without_step", {"plan": PLAN, "name": "draft"}),
        ("renamed_sheets", {"plan": PLAN, "pairs": (("in", "out"), ("out", "in"))}),
        ("step_of", {"plan": PLAN, "name": "none"}), ("with_step", {"plan": PLAN, "step": PLAN[1]}),
    ],
    "plans": [
        ("clash", {"one": (("a", 1),), "other": (("a", 0),)}), ("is_sound", {"plan": PLAN}), ("is_sound", {"plan": TWO}),
        ("unsound", {"plan": TWO}), ("is_unsound", {"plan": TWO, "thing": ("twice", ("a", "b"), ("x", "y"))}),
        ("one_order", {"plan": PLAN}), ("is_one_order", {"plan": PLAN, "thing": ("draft", "quick", "tell")}),
        ("loose_ring", {"plan": LOOSE}), ("is_loose_ring", {"plan": LOOSE, "thing": ("a", "b", "c", "d")}),
        ("unmade_at", {"plan": LOOSE, "sheet": "h"}), ("wanted", {"plan": PLAN}),
        ("needed_at", {"plan": PLAN, "variant": (), "sheets": ("page",)}), ("needed_some", {"plan": PLAN, "sheets": ("page",)}),
        ("needed_each", {"plan": PLAN, "sheets": ("page",)}),
        ("told_alike", {"plan": PLAN, "sheet": "page", "one": (), "other": ("fast",)}),
        ("felt_flags", {"plan": PLAN, "sheet": "page"}), ("one_order", {"plan": LOOSE}), ("loose_ring", {"plan": PLAN}),
    ],
    "runs": [
        ("is_counts", {"thing": COUNTS}), ("is_run", {"thing": RUN}), ("is_runs", {"thing": RUNS}),
        ("is_spot", {"runs": RUNS, "thing": (1, "out")}), ("is_seen", {"runs": RUNS, "thing": PAIRS}),
        ("new_run", {"plan": PLAN, "variant": (), "counts": COUNTS}), ("held_sheets", {"run": RUN}),
        ("mark_of", {"run": RUN, "sheet": "old"}), ("cleaned", {"run": RUN}), ("spots", {"runs": RUNS}),
        ("pair_of", {"one": (1, "in"), "other": (0, "out")}), ("new_run", {"plan": PLAN, "variant": (), "counts": ()}),
    ],
    "worlds": [
        ("is_world", {"thing": WORLD}), ("told_by", {"world": WORLD, "method": "f", "ins": (1,)}),
        ("held_by", {"world": WORLD, "mark": "n"}), ("held_in", {"world": WORLD, "run": SMALL[0]}),
        ("held_at", {"world": WORLD, "runs": SMALL, "spot": Y}), ("agrees", {"world": WORLD, "runs": SMALL, "seen": SEEN}),
        ("first_broken", {"world": WORLD, "runs": SMALL, "seen": SEEN}), ("same_spots", {"world": WORLD, "runs": SMALL}),
        ("asked_of", {"world": WORLD, "runs": SMALL}), ("cut_world", {"world": WORLD, "runs": SMALL}),
        ("how_many_worlds", {"runs": SMALL, "many": 2}), ("nth_world", {"runs": SMALL, "many": 2, "number": 5}),
        ("same_in_all", {"runs": SMALL, "seen": SEEN, "one": X, "other": Y, "many": 2}),
        ("held_at", {"world": WORLD, "runs": SMALL, "spot": (0, "z")}),
        ("first_broken", {"world": WORLD, "runs": SMALL, "seen": (((0, "z"), (1, "a")),)}),
        ("same_in_all", {"runs": SMALL, "seen": SEEN, "one": X, "other": (1, "y"), "many": 2}),
    ],
    "free": [
        ("classes_of", {"runs": RUNS, "seen": PAIRS}), ("how_many_classes", {"runs": RUNS, "seen": PAIRS}),
        ("alike", {"runs": RUNS, "seen": PAIRS, "one": IN, "other": OLD}), ("alike_to", {"runs": RUNS, "seen": PAIRS, "one": IN}),
        ("alike_pairs", {"runs": RUNS, "seen": PAIRS}), ("tells_all", {"runs": RUNS, "seen": PAIRS, "others": ((IN, OLD),)}),
        ("free_world", {"runs": RUNS, "seen": PAIRS}), ("apart_paper", {"runs": RUNS, "seen": PAIRS, "one": IN, "other": PAGE}),
        ("is_apart_paper", {"runs": SMALL, "seen": (), "one": A, "other": Y, "thing": WORLD}),
        ("fewest_numbers", {"runs": RUNS, "seen": PAIRS, "one": IN, "other": PAGE}),
        ("few_paper", {"runs": RUNS, "seen": PAIRS, "one": IN, "other": PAGE}),
        ("alike_among", {"runs": RUNS, "seen": PAIRS, "one": IN, "other": PAGE, "many": 2}),
        ("alike", {"runs": RUNS, "seen": PAIRS, "one": (0, "none"), "other": OLD}),
        ("apart_paper", {"runs": RUNS, "seen": PAIRS, "one": IN, "other": OLD}),
    ],
    "why": [
        ("why", {"runs": RUNS, "seen": PAIRS, "one": IN, "other": OLD}),
        ("is_why", {"runs": RUNS, "seen": PAIRS, "one": IN, "other": OLD, "thing": (("seen", 0), ("seen", 1))}),
        ("needless", {"runs": RUNS, "seen": PAIRS}), ("in_each", {"runs": RUNS, "seen": PAIRS, "one": IN, "other": OLD}),
        ("only_by", {"runs": RUNS, "seen": PAIRS, "place": 0}), ("more_by", {"runs": RUNS, "seen": PAIRS, "one": IN, "other": PAGE}),
        ("least_lots", {"runs": RUNS, "seen": PAIRS, "one": IN, "other": OLD}), ("fewest_lot", {"runs": RUNS, "seen": PAIRS}),
        ("why", {"runs": RUNS, "seen": PAIRS, "one": IN, "other": PAGE}), ("only_by", {"runs": RUNS, "seen": PAIRS, "place": 2}),
        ("needless", {"runs": RUNS, "seen": ((IN, (3, "out")),)}),
    ],
    "orders": [
        ("is_waits", {"run": SMALL[0], "thing": WAITS}), ("ahead_of", {"run": SMALL[0], "waits": WAITS, "name": "q"}),
        ("read_kind", {"run": SMALL[0], "waits": WAITS, "name": "q", "sheet": "x"}),
        ("patterns", {"run": SMALL[0], "waits": (), "name": "q"}), ("is_order", {"run": SMALL[0], "waits": WAITS, "thing": ("p", "q")}),
        ("how_many_orders", {"run": SMALL[0], "waits": WAITS}), ("nth_order", {"run": SMALL[0], "waits": (), "number": 1}),
        ("number_of_order", {"run": SMALL[0], "waits": (), "order": ("q", "p")}),
        ("left_in", {"run": SMALL[0], "order": ("q", "p"), "world": WORLD}),
        ("same_for_all", {"runs": SMALL, "seen": SEEN, "place": 0, "waits": WAITS}),
        ("right_for_all", {"runs": SMALL, "seen": SEEN, "place": 0, "waits": WAITS}),
        ("again_for_all", {"runs": SMALL, "seen": (), "place": 0, "waits": ()}),
        ("other_paper", {"runs": SMALL, "seen": (), "place": 0, "waits": ()}),
        ("wrong_paper", {"runs": SMALL, "seen": (), "place": 0, "waits": (("q", "p"),)}),
        ("is_other_paper", {"runs": SMALL, "seen": (), "place": 0, "waits": (), "thing": OTHER}),
        ("is_wrong_paper", {"runs": SMALL, "seen": (), "place": 0, "waits": (), "thing": WRONG}),
        ("loosest", {"run": SMALL[0], "waits": WAITS}), ("fewest_rounds", {"run": SMALL[0], "waits": WAITS, "hands": 2}),
        ("ahead_of", {"run": SMALL[0], "waits": WAITS, "name": "none"}), ("loosest", {"run": SMALL[0], "waits": (("q", "p"),)}),
        ("number_of_order", {"run": SMALL[0], "waits": WAITS, "order": ("q", "p")}),
        ("other_paper", {"runs": SMALL, "seen": (), "place": 1, "waits": ()}),
    ],
}

# Labels, and what is kept.
ADD = (("p", "add", ("a",), "x", ()), ("q", "add", ("b",), "y", ()), ("r", "sub", ("b",), "z", (("u", 1),)))
LABELLED = ((ADD, (), (("a", "m"), ("b", "n"))), (ADD, ("u",), (("a", "m"), ("b", "m"))))
FULL, LEAN = (("method", ""), ("read", "0")), (("method", ""),)
HIT = ((("m", 1), ("n", 2)), (("add", (1,), 3), ("add", (2,), 4)), 0)
KIND_PAPER = (((ADD[:2], (), (("a", "m"), ("b", "n"))),), HIT, (0, "x"), (0, "y"))
ROAD = (("a", "f", ("x",), "p", ()), ("b", "g", ("y",), "q", ()), ("c", "h", ("p", "q"), "r", ()))
KEPT = (ROAD, (), (("x", "m"), ("y", "n")))
LATE = (ROAD, (), (("x", "k"), ("y", "n")))
ALIKE = (((0, "p"), (0, "q")),)

# Two RUNS, and JOINS.
TWINS = (("c", "t", ("x",), "f", ()), ("d", "t", ("y",), "g", ()), ("e", "u", ("f",), "h", ()), ("k", "u", ("g",), "m", ()))
TURNS = ((TWINS, (), (("x", "p"), ("y", "q"))), (TWINS, (), (("x", "r"), ("y", "q"))))
GIVEN = ((("p", 1), ("q", 2), ("r", 3)), (("t", (1,), 4), ("t", (2,), 5), ("t", (3,), 4), ("u", (4,), 6), ("u", (5,), 7)), 0)
SAME = (((0, "g"), (1, "y")),)
MIX = (("f", "mix", ("x", "y"), "m", ()), ("g", "sum", ("m", "z"), "t", ()))
TOLD = (("x", "a"), ("y", "b"), ("z", "c"))
BASE, LEFT, RIGHT = (MIX, (), TOLD), (MIX, (), (("x", "d"), *TOLD[1:])), (MIX, (), (("x", "e"), ("y", "e"), TOLD[2]))
SIDES = {"base": BASE, "left": LEFT, "right": RIGHT}
FRESH = (MIX, (), (("x", "d"), ("y", "e"), ("z", "c")))
NONE = ((("a", 1), ("b", 2), ("c", 3), ("d", 4), ("e", 5)), (("mix", (4, 5), 9),), 0)

CALLS.update({
    "labels": [
        ("is_kind", {"thing": (("counts", "x"), ("flag", "u"))}), ("label_of", {"runs": LABELLED, "spot": (1, "x"), "kind": FULL}),
        ("can_share", {"runs": LABELLED, "kind": FULL, "one": (0, "x"), "other": (1, "y")}),
        ("tied", {"runs": LABELLED, "kind": FULL, "one": (0, "x"), "other": (1, "y")}),
        ("is_right_hit", {"runs": LABELLED, "seen": (((0, "a"), (0, "b")),), "kind": LEAN, "one": (0, "x"), "other": (0, "y")}),
        ("wrong_hits", {"runs": LABELLED, "seen": (((0, "a"), (0, "b")),), "kind": (("sheet", ""),)}),
        ("hit_paper", {"runs": LABELLED, "seen": (((0, "b"), (1, "y")),), "kind": LEAN, "one": (0, "x"), "other": (0, "y")}),
        ("is_hit_paper", {"runs": LABELLED, "seen": (), "kind": LEAN, "one": (0, "x"), "other": (0, "y"), "thing": HIT}),
        ("with_book", {"runs": LABELLED, "kind": FULL, "world": HIT}), ("is_right_kind", {"plan": ADD, "kind": FULL}),
        ("kind_paper", {"plan": ADD, "kind": LEAN}), ("is_kind_paper", {"plan": ADD[:2], "kind": LEAN, "thing": KIND_PAPER}),
        ("least_kinds", {"plan": ADD, "parts": (("method", ""), ("name", ""), ("read", "0"))}), ("is_right_always", {"kind": FULL}),
        ("sure_hits", {"runs": LABELLED, "seen": (((0, "a"), (0, "b")),), "kind": FULL}),
        ("misses", {"runs": LABELLED, "seen": (((0, "x"), (0, "y")),), "kind": FULL}),
        ("seen_by_hits", {"runs": LABELLED, "seen": (((0, "b"), (1, "y")),), "kind": FULL, "pairs": (((0, "x"), (1, "y")), ((1, "x"), (0, "y")))}),
        ("label_of", {"runs": LABELLED, "spot": (0, "a"), "kind": FULL}), ("kind_paper", {"plan": ADD, "kind": FULL}),
        ("tied", {"runs": LABELLED, "kind": FULL, "one": (0, "x"), "other": (1, "z")}),
    ],
    "kept": [
        ("made_again", {"run": KEPT, "seen": ALIKE, "goals": ("r",), "kept": ("p",), "turn": ("x",)}),
        ("most_made", {"run": KEPT, "seen": (), "goals": ("r",), "kept": ("p", "q"), "may": ("x", "y"), "many": 1}),
        ("turn_against", {"run": KEPT, "seen": (), "goals": ("r",), "kept": ("p",), "may": ("x", "y"), "many": 1, "most": 2}),
        ("least_promise", {"run": KEPT, "goals": ("r",), "may": ("x", "y"), "many": 1}),
        ("some_kept", {"run": KEPT, "seen": (), "goals": ("r",), "may": ("x", "y"), "many": 1, "most": 2}),
        ("forced_kept", {"run": KEPT, "seen": ALIKE, "goals": ("r",), "may": ("x",), "many": 1, "most": 2}),
        ("needless_kept", {"run": KEPT, "seen": (), "goals": ("r",), "kept": ("p", "r"), "may": ("x",)}),
        ("least_made", {"run": KEPT, "seen": ALIKE, "goals": ("r",), "kept": ()}),
        ("turn_asking", {"runs": (KEPT, LATE), "seen": (((0, "q"), (1, "q")),), "place": 0, "goals": ("r",), "spot": (1, "r"),
                         "back": (("x", ("k", "z")), ("y", ())), "many": 1}),
    ],
    "changes": [
        ("others", {"runs": TURNS, "seen": SAME}), ("left_over", {"runs": (KEPT, TURNS[0])}),
        ("taken_from", {"runs": TURNS, "seen": SAME, "sheet": "y"}),
        ("needed_sheets", {"runs": TURNS, "seen": (), "targets": ("h", "m")}),
        ("fewest_calls", {"runs": TURNS, "seen": (), "targets": ("h", "m")}),
        ("steps_called", {"runs": TURNS, "seen": (), "targets": ("h",), "world": GIVEN, "way": "own", "order": ("k", "c", "d", "e")}),
        ("calls_in", {"runs": TURNS, "seen": (), "targets": ("h",), "world": GIVEN, "way": "none"}),
        ("may_be_spared", {"runs": TURNS, "seen": SAME, "name": "e"}), ("spared_paper", {"runs": TURNS, "seen": (), "name": "e"}),
        ("is_spared_paper", {"runs": TURNS, "seen": (), "name": "e", "thing": GIVEN}),
        ("unfelt", {"one": (PLAN, ()), "other": (PLAN, ("fast",)), "sheet": "page"}), ("minded_flags", {"plan": PLAN, "sheet": "page"}),
        ("calls_in_row", {"runs": TURNS, "order": (1, 0), "kept": "last"}), ("least_row", {"runs": (*TURNS, TURNS[0])}),
        ("others", {"runs": TURNS, "seen": (((0, "f"), (1, "z")),)}), ("needed_sheets", {"runs": TURNS, "seen": (), "targets": ("z",)}),
        ("may_be_spared", {"runs": TURNS, "seen": (), "name": "z"}), ("spared_paper", {"runs": TURNS, "seen": (), "name": "c"}),
        ("steps_called", {"runs": TURNS, "seen": (), "targets": ("h",), "world": GIVEN, "way": "own", "order": ("k", "c")}),
    ],
    "joins": [
        ("clashes", SIDES), ("joined", {**SIDES, "takes": (("count", "x"),)}),
        ("at_hand", {"runs": (BASE, LEFT), "seen": (), "run": FRESH, "sheet": "x"}),
        ("fresh_sheets", {"runs": (BASE, LEFT), "seen": (), "run": FRESH}),
        ("none_paper", {"runs": (BASE, LEFT, RIGHT), "seen": (), "run": FRESH, "sheet": "t"}),
        ("is_none_paper", {"runs": (BASE, LEFT, RIGHT), "seen": (), "run": FRESH, "sheet": "m", "thing": NONE}),
        ("steps_wanted", {"runs": (BASE, LEFT), "seen": (), "run": FRESH, "sheets": ("t", "x")}),
        ("idle_clashes", {**SIDES, "seen": (((0, "x"), (1, "x")),), "sheet": "t"}),
        ("tree_runs", {"base": BASE, "sides": (LEFT, RIGHT, FRESH), "tree": (2, (0, 1))}),
        ("at_hand", {"runs": (BASE, LEFT), "seen": (), "run": FRESH, "sheet": "none"}),
        ("joined", {**SIDES, "left": (MIX, (), ()), "takes": ()}), ("none_paper", {"runs": (BASE,), "seen": (), "run": BASE, "sheet": "t"}),
    ],
})

# ASKERS.
ASKPLAN = (("list", ("src",), ("old",)), ("page", ("conf",), ("list", "old")))
DAYS = ((("conf", "m"), ("old", "o"), ("src", "s")), (("conf", "m"), ("old", "p"), ("src", "s")), (("conf", "n"), ("old", "o"), ("src", "t")))
BOOK = (ASKPLAN, DAYS, ((0, "list", ()), (0, "page", ("list",))), (((0, "conf"), (0, "list")),))
RING = (("a", ("x",), ("b",)), ("b", ("y",), ("a",)))
LATER = (RING, ((("x", "m"), ("y", "n")), (("x", "k"), ("y", "n"))), ((0, "a", ()), (0, "b", ("a",))), ())
ASKWORLD = ((("k", 1), ("m", 2), ("n", 3)), (("a", (("x", 2),), 7), ("b", (("y", 3),), "a"), ("b", (("y", 3), ("a", 7)), 8)), 0)
SEEN_LATER = (*LATER[:3], (((0, "a"), (0, "x")), ((0, "b"), (0, "y"))))
SECOND = (("a", (("x", 1),), "b"), ("a", (("x", 2),), 2), ("b", (("y", 3),), "a"), ("b", (("y", 3), ("a", 2)), 3))
FAILING = (ASKWORLD[0], SECOND, 0)
HERE, THERE = {"book": BOOK, "day": 1, "sheet": "page"}, {"book": LATER, "day": 1, "sheet": "a"}

# Branches and letters.
BRANCHED = (("one", "f", ("x",), "a", ()), ("two", "g", ("a", "y"), "b", ()))
MONTHS = ((BRANCHED, (), (("x", "m"), ("y", "k"))), (BRANCHED, (), (("x", "n"), ("y", "k"))))
STORY = (("come", "west", (0, "x")), ("do", "west", "one"), ("come", "west", (1, "x")), ("come", "west", (1, "y")),
         ("do", "west", "two"), ("lend", "east", "west", "b"))
TOLD_SO = {"runs": MONTHS, "seen": (((0, "x"), (0, "y")),), "story": STORY}
ODD = ((("k", 1), ("m", 1), ("n", 3)), (("f", (1,), 4), ("f", (3,), 5), ("g", (4, 1), 6), ("g", (5, 1), 7)), 0)
LETTERED = (("one", "f", ("x", "y"), "t", ()),)
SENT_RUNS = tuple((LETTERED, (), (("x", x), ("y", y))) for x, y in (("n", "k"), ("m", "l"), ("m", "k")))
SENT_SEEN = (((0, "t"), (2, "t")), ((1, "t"), (2, "t")))
HAVE, SENT = ((2, "x"), (2, "y")), ((0, "x"), (2, "x"), (1, "y"))
POST = {"runs": SENT_RUNS, "seen": SENT_SEEN, "have": HAVE, "letters": SENT}

CALLS.update({
    "asked": [
        ("is_askplan", {"thing": ASKPLAN}), ("is_days", {"askplan": ASKPLAN, "thing": DAYS}), ("is_book", {"thing": BOOK}),
        ("book_agrees", {"book": BOOK}), ("way_of", HERE), ("can_read", HERE), ("can_fail", THERE), ("failing", {"book": LATER, "day": 1}),
        ("asked_classes", {"book": BOOK}), ("is_alike", {"book": BOOK, "one": (0, "page"), "other": (1, "page")}), ("note_for", HERE),
        ("failing", {"book": LATER, "day": 2}), ("is_alike", {"book": LATER, "one": (0, "a"), "other": (1, "a")}),
        ("is_alike", {"book": LATER, "one": (0, "a"), "other": (1, "z")}), ("way_of", {"book": LATER, "day": 5, "sheet": "a"}),
    ],
    "deeds": [
        ("is_askworld", {"thing": ((("k", 1), ("m", 2)), (), 0)}),
        ("day_played", {"askplan": RING, "counts": LATER[1][0], "world": ASKWORLD}),
        ("read_in", {"askplan": RING, "counts": LATER[1][0], "world": ASKWORLD, "sheet": "b"}),
        ("agrees_with", {"book": LATER, "world": ASKWORLD}), ("free_askworld", {"book": BOOK}), ("failing_world", THERE),
        ("is_failing_world", {**THERE, "book": SEEN_LATER, "thing": FAILING}), ("must_look", HERE), ("openings", {"book": LATER, "day": 0, "sheet": "a"}),
        ("sure_makes", HERE), ("can_make", THERE), ("must_look", {"book": LATER, "day": 2, "sheet": "a"}),
    ],
    "branches": [
        ("is_story", {"runs": MONTHS, "thing": STORY}), ("copies", {"runs": MONTHS, "story": STORY, "branch": "west"}),
        ("held_there", {"world": ODD, "runs": MONTHS, "story": STORY, "branch": "west"}),
        ("same_copies", {**TOLD_SO, "one": ("west", "b"), "other": ("east", "b")}),
        ("moments", {**TOLD_SO, "branch": "west", "some": ("b",)}), ("odd_world", {**TOLD_SO, "branch": "west", "some": ("b", "x")}),
        ("is_odd_world", {**TOLD_SO, "branch": "west", "some": ("b", "x"), "thing": ODD}),
        ("unsettled", {**TOLD_SO, "branch": "west", "row": ("one", "two")}), ("doing_row", {**TOLD_SO, "branch": "west", "sheet": "b"}),
        ("moments", {**TOLD_SO, "branch": "east", "some": ("b", "x")}), ("unsettled", {**TOLD_SO, "branch": "west", "row": ("six",)}),
    ],
    "letters": [
        ("is_mix", {"runs": SENT_RUNS, "thing": HAVE}),
        ("right_by", {"runs": SENT_RUNS, "seen": SENT_SEEN, "mix": ((0, "x"), (1, "y")), "sheet": "t"}),
        ("may_stand", {"runs": SENT_RUNS, "have": HAVE, "letters": SENT}), ("bad_mix", {**POST, "sheet": "t"}),
        ("turned_away", {**POST, "sheet": "t"}), ("last_ones", {"letters": SENT, "kept": ((0, 1),)}),
        ("bad_order", {**POST, "kept": (), "sheet": "t"}), ("is_bad_order", {**POST, "kept": (), "sheet": "t", "thing": (1, 2, 0)}),
        ("fewest_kept", {**POST, "sheet": "t"}), ("bad_mix", {**POST, "sheet": "none"}),
    ],
})

# Readers, bad SHEETS, REPORTS.
OFFICE = (
    ("add", "sum", ("north", "south"), "all", ()), ("cut", "top", ("all",), "best", ()), ("low", "avg", ("north",), "min", ()),
    ("mean", "avg", ("south",), "mid", ()),
)
OFFICES = ((OFFICE, (), (("north", "m"), ("south", "n"))),)
NORTH, SOUTH, BEST, MID, MIN = [(0, sheet) for sheet in ("north", "south", "best", "mid", "min")]
ENDS = ((BEST, MID),)
AVERAGES = (("avg", (1,), 5), ("avg", (2,), 6), ("avg", (3,), 5))
TWO_WORLDS = (((("m", 1), ("n", 1)), AVERAGES, 0), ((("m", 1), ("n", 3)), AVERAGES, 0))
HEARD = {"runs": OFFICES, "seen": ENDS}
SUMMED = (OFFICE[:2], (), OFFICES[0][2])
WRONG_SUM = ((("a", 7), ("m", 1), ("n", 2)), (("sum", (1, 2), 3), ("top", (3,), 4), ("top", (7,), 5)), 0)
DOUBTED = {"run": SUMMED, "seen": (((0, "best"), (0, "north")),), "bad": ("all", "south")}
SAID = (("east", NORTH, 5), ("east", SOUTH, 5), ("west", MID, 7), ("west", MIN, 8))
LIED = {"runs": OFFICES, "seen": (), "reports": SAID}
LOTS = (("east",), ("west",))
LIE = (("west",), ((("m", 5), ("n", 5)), (("avg", (5,), 9), ("sum", (5, 5), 3)), 0))

# PLANS turned into others.
FLAT = (("draft", "sum", ("in", "old"), "page", ()),)
EVEN = (
    ("draft", "sum", ("in", "old"), "out", (("fast", 0),)), ("quick", "sum", ("old", "in"), "out", (("fast", 1),)),
    ("tell", "put", ("out",), "page", ()),
)
HABITS = (("put", "copy"), ("sum", "even"))
SAME_AGAIN = (
    ("a", "m", ("in",), "f", ()), ("b", "m", ("in",), "g", ()), ("c", "n", ("f", "g"), "h", ()), ("d", "n", ("g", "f"), "k", (("u", 1),)),
)
LEAST = (("x", "m", ("in",), "y", ()), ("z", "n", ("y", "y"), "h", ()))

# The judge, and texts.
HANGING = (("p", "f", ("a", "b"), "x", ()), ("q", "f", ("x", "b"), "y", ()), ("r", "g", ("b",), "z", ()))
HUNG = ((HANGING, (), (("a", "m"), ("b", "n"))), (HANGING, (), (("a", "o"), ("b", "n"))))
DOWN = tuple(((0, sheet), (1, sheet)) for sheet in "yxa")
PROMISED = ("alike", HUNG, (((0, "a"), (1, "a")), ((0, "x"), (1, "x"))), (0, "y"), (1, "y"))
BROKEN = ("told", OFFICES, ENDS, (NORTH,), SOUTH)
PLAN_LINE = "p: f(a b) > x if +u -v; q: g() > y"
RUN_LINE = "q: g(a) > y @ u @ a=m"
WORLD_LINE = "m=-3; f(0 1)=2 | g()=7; 5"

CALLS.update({
    "readers": [
        ("told_spots", {**HEARD, "have": (NORTH,)}), ("is_told", {**HEARD, "have": (SOUTH,), "spot": BEST}),
        ("two_worlds", {**HEARD, "have": (NORTH,), "spot": SOUTH}),
        ("is_two_worlds", {"runs": OFFICES, "seen": (), "have": (NORTH, MID), "spot": SOUTH, "thing": TWO_WORLDS}),
        ("marks_that_matter", {**HEARD, "spot": BEST}), ("can_give", {**HEARD, "have": (NORTH,), "secret": (BEST,), "spot": MIN}),
        ("full_gifts", {**HEARD, "have": (NORTH,), "secret": (BEST,)}),
        ("bands", {**HEARD, "haves": ((NORTH,), (SOUTH,), (MID, NORTH)), "spot": (0, "all")}),
        ("two_worlds", {**HEARD, "have": (SOUTH,), "spot": BEST}), ("told_spots", {**HEARD, "have": ((1, "north"),)}),
        ("bands", {**HEARD, "haves": ((NORTH,), ((0, "west"),)), "spot": (0, "all")}),
    ],
    "trust": [
        ("bad_run", {"run": SUMMED, "bad": ("all", "south")}), ("reached", DOUBTED), ("surely_right", {**DOUBTED, "checks": ("all",)}),
        ("wrong_world", {**DOUBTED, "checks": ("all",), "sheet": "south"}),
        ("is_wrong_world", {"run": SUMMED, "seen": (), "bad": ("all",), "checks": ("north",), "sheet": "best", "thing": WRONG_SUM}),
        ("fewest_checks", {**DOUBTED, "wanted": ("all", "best")}), ("behind_reruns", {**DOUBTED, "again": ("all", "best")}),
        ("fewest_reruns", {**DOUBTED, "bad": ("all",), "wanted": ("best",)}), ("wrong_world", {**DOUBTED, "checks": ("all",), "sheet": "best"}),
        ("reached", {**DOUBTED, "bad": ("west",)}), ("reached", {**DOUBTED, "seen": (((0, "best"), (1, "north")),)}),
        ("fewest_reruns", {**DOUBTED, "wanted": ("south",)}),
    ],
    "liars": [
        ("can_be", {**LIED, "lot": ("west",)}), ("lots_that_can_be", {**LIED, "lots": (("west",), (), ("east", "west"))}),
        ("least_liars", LIED), ("surely_holds", {**LIED, "lots": LOTS[1:], "spot": SOUTH}), ("surely_lie", {**LIED, "lots": LOTS[1:]}),
        ("other_world", {**LIED, "lots": LOTS, "spot": MID, "number": 7}),
        ("is_other_world", {**LIED, "lots": LOTS, "spot": MID, "number": 7, "thing": LIE}),
        ("other_world", {**LIED, "lots": LOTS[1:], "spot": SOUTH, "number": 5}),
        ("surely_holds", {**LIED, "lots": LOTS[1:], "spot": (1, "mid")}), ("can_be", {**LIED, "reports": (("east", (4, "mid"), 5),), "lot": ()}),
    ],
    "turned": [
        ("is_habits", {"thing": HABITS}), ("tell_alike", {"one": EVEN, "other": FLAT, "goals": ("page",), "habits": HABITS}),
        ("apart_at", {"one": EVEN, "other": FLAT, "goals": ("old", "page"), "habits": HABITS[:1]}),
        ("least_steps", {"one": SAME_AGAIN, "variant": ("u",), "goals": ("h", "k")}),
        ("least_plan", {"one": SAME_AGAIN, "variant": ("u",), "goals": ("h", "k")}),
        ("is_least_plan", {"one": SAME_AGAIN, "variant": (), "goals": ("h",), "thing": LEAST}),
        ("fused", {"one": SAME_AGAIN, "name": "a", "second": "b"}),
        ("can_fuse", {"one": SAME_AGAIN, "name": "a", "second": "b", "goals": ("h",), "habits": ()}),
        ("fusable", {"one": SAME_AGAIN, "goals": ("h", "k"), "habits": HABITS}),
        ("without_flag", {"one": SAME_AGAIN, "name": "d", "flag": "u"}),
        ("idle_flags", {"one": SAME_AGAIN, "goals": ("h",), "habits": ()}), ("slimmed", {"one": SAME_AGAIN, "goals": ("k",)}),
        ("parted", {"one": SAME_AGAIN, "name": "d", "flag": "b", "new": "e"}), ("fused", {"one": SAME_AGAIN, "name": "x", "second": "y"}),
        ("parted", {"one": SAME_AGAIN, "name": "d", "flag": "b", "new": "a"}),
        ("parted", {"one": SAME_AGAIN, "name": "e", "flag": "b", "new": "a"}),
    ],
    "judge": [
        ("stands", {"promise": PROMISED}), ("paper", {"promise": BROKEN}),
        ("is_paper", {"promise": ("told", OFFICES, (), (NORTH,), SOUTH), "thing": TWO_WORLDS}),
        ("is_paper", {"promise": ("plans", EVEN, FLAT, ("page",), HABITS[:1]), "thing": (("fast",), "page")}),
        ("without_seen", {"promise": PROMISED, "places": (1,)}), ("leans_on", {"promise": PROMISED}),
        ("falls_at", {"promise": PROMISED, "turns": (1, 0)}), ("blame", {"runs": HUNG, "seen": (), "one": (0, "y"), "other": (1, "y")}),
        ("is_blame", {"runs": HUNG, "seen": (), "one": (0, "y"), "other": (1, "y"), "thing": DOWN}),
        ("paper", {"promise": PROMISED}), ("stands", {"promise": ("surely", PLAN)}), ("without_seen", {"promise": PROMISED, "places": (0, 2)}),
        ("blame", {"runs": HUNG, "seen": (), "one": (0, "c"), "other": (1, "y")}), ("paper", {"promise": ("sound", TWO)}),
        ("leans_on", {"promise": ("sound", TWO)}),
    ],
    "texts": [
        ("plan_text", {"plan": PLAN}), ("plan_in", {"text": PLAN_LINE}), ("counts_text", {"counts": COUNTS}), ("counts_in", {"text": "a=m b=n"}),
        ("run_text", {"run": RUN}), ("run_in", {"text": RUN_LINE}), ("runs_text", {"runs": RUNS}), ("runs_in", {"text": "- @ - @ - | " + RUN_LINE}),
        ("seen_text", {"seen": PAIRS}), ("seen_in", {"text": "0.a~0.b 0.a~1.x"}), ("world_text", {"world": WORLD}), ("world_in", {"text": WORLD_LINE}),
        ("plan_in", {"text": PLAN_LINE + " "}),
    ],
    "desk": [
        ("is_request", {"thing": "see 0.a 1.b"}), ("replies", {"text": "tell " + RUN_LINE + "\nalike 0.a 0.y\nundo\nundo"}),
        ("replies", {"text": "undo\ndo"}),
    ],
})

INTERFACE = {
    "steps": "is_condition is_step is_plan holds running step_of flags_in methods_in sheets_in variants_of made_at counts_needed "
             "maker with_step without_step renamed_sheets",
    "plans": "clash is_sound unsound is_unsound one_order is_one_order loose_ring is_loose_ring unmade_at wanted needed_at "
             "needed_some needed_each told_alike felt_flags",
    "runs": "is_counts is_run is_runs is_spot is_seen new_run held_sheets mark_of cleaned spots pair_of",
    "worlds": "is_world told_by held_by held_in held_at agrees first_broken same_spots asked_of cut_world how_many_worlds "
              "nth_world same_in_all",
    "free": "classes_of how_many_classes alike alike_to alike_pairs tells_all free_world apart_paper is_apart_paper "
            "fewest_numbers few_paper alike_among",
    "why": "why is_why needless in_each only_by more_by least_lots fewest_lot",
    "orders": "is_waits ahead_of read_kind patterns is_order how_many_orders nth_order number_of_order left_in same_for_all "
              "right_for_all again_for_all other_paper wrong_paper is_other_paper is_wrong_paper loosest fewest_rounds",
    "labels": "is_kind label_of can_share tied is_right_hit wrong_hits hit_paper is_hit_paper with_book is_right_kind kind_paper "
              "is_kind_paper least_kinds is_right_always sure_hits misses seen_by_hits",
    "kept": "made_again most_made turn_against least_promise some_kept forced_kept needless_kept least_made turn_asking",
    "changes": "others left_over taken_from needed_sheets fewest_calls steps_called calls_in may_be_spared spared_paper "
               "is_spared_paper unfelt minded_flags calls_in_row least_row",
    "joins": "clashes joined at_hand fresh_sheets none_paper is_none_paper steps_wanted idle_clashes tree_runs",
    "asked": "is_askplan is_days is_book book_agrees way_of can_read can_fail failing asked_classes is_alike note_for",
    "deeds": "is_askworld day_played read_in agrees_with free_askworld failing_world is_failing_world must_look openings sure_makes "
             "can_make",
    "branches": "is_story copies held_there same_copies moments odd_world is_odd_world unsettled doing_row",
    "letters": "is_mix right_by may_stand bad_mix turned_away last_ones bad_order is_bad_order fewest_kept",
    "readers": "told_spots is_told two_worlds is_two_worlds marks_that_matter can_give full_gifts bands",
    "trust": "bad_run reached surely_right wrong_world is_wrong_world fewest_checks behind_reruns fewest_reruns",
    "liars": "can_be lots_that_can_be least_liars surely_holds surely_lie other_world is_other_world",
    "turned": "is_habits tell_alike apart_at least_steps least_plan is_least_plan fused can_fuse fusable without_flag idle_flags "
              "slimmed parted",
    "judge": "stands paper is_paper without_seen leans_on falls_at blame is_blame",
    "texts": "plan_text plan_in counts_text counts_in run_text run_in runs_text runs_in seen_text seen_in world_text world_in",
    "desk": "is_request replies",
}

# What these return is a list; all others return no list at any depth.
LISTS = ("variants_of", "alike_pairs", "only_by", "more_by", "least_lots", "patterns", "wrong_hits", "least_kinds",
         "sure_hits", "misses", "openings", "full_gifts", "bands", "least_liars", "fusable", "replies")
