"""PROMISES of all words, drawn in a fixed way, and what the document tells beside each word."""

from reportalike import (
    asked, branches, changes, deeds, free, joins, labels, letters, liars, orders, plans, readers, trust, turned,
)
from tests import (
    asklooks, drawn, looks, test_branches, test_changes, test_labels, test_letters, test_liars, test_readers, test_trust, test_turned,
)


def order_case(rng):
    run = drawn.run(rng, full=True, dense=rng.random() < 0.7, marks="mn", most=4)
    runs = (run, drawn.run(rng, marks="mn")) if rng.random() < 0.5 else (run,)
    return runs, drawn.seen(rng, runs, most=3), 0, drawn.waits(rng, run, many=rng.choice((0.3, 0.6, 0.9)))


def hit_case(rng):
    while True:
        runs, seen, kind = test_labels.case(rng)
        made = looks.made_spots(runs)
        if made:
            return runs, seen, kind, rng.choice(made), rng.choice(made)


def needed_case(rng):
    while True:
        runs = drawn.twin_runs(rng)
        found = test_changes.told_case(rng, runs)
        names = [step[0] for step in looks.working(runs[1][0], runs[1][1])]
        if names:
            return runs, found[1], rng.choice(names)


def hand_case(rng):
    first = drawn.wide_run(rng, 3)
    runs = (first, drawn.changed_run(rng, first))[:rng.randint(1, 2)]
    run = drawn.changed_run(rng, first)
    sheets = looks.held_sheets(run)
    return (runs, drawn.seen(rng, runs, most=2), run, rng.choice(sheets)) if sheets else hand_case(rng)


def end_case(rng):
    while True:
        book = asklooks.drawn_book(rng)
        row = [(day, sheet) for day in range(len(book[1])) for sheet in asklooks.sheets(book[0])]
        if row:
            return (book, *rng.choice(row))


def moment_case(rng):
    while True:
        runs, seen, story, *_ = test_branches.case(rng)
        sheets = test_branches.has_of(story, runs, "west")
        some = tuple(sheet for sheet in sheets if rng.random() < 0.4)
        if some:
            return runs, seen, story, "west", some


def letter_case(rng):
    runs, seen, have, sent, sheet = test_letters.case(rng)
    kept = tuple(pair for pair in test_letters.all_pairs(sent) if rng.random() < 0.5)
    return runs, seen, have, sent, kept, sheet


def alike_case(rng):
    runs, seen, _, spot = test_readers.case(rng)
    return runs, seen, spot, rng.choice(looks.spots(runs))


def lie_case(rng):
    runs, seen, reports, lots, spot, number = test_liars.case(rng)
    return runs, seen, reports, lots, rng.choice([one for _, one, _ in reports]) if reports and rng.random() < 0.5 else spot, number


DRAW = {
    "sound": lambda rng: (drawn.plan(rng, sheets="abc"),), "plans": test_turned.case, "alike": alike_case, "orders": order_case,
    "right": order_case, "hit": hit_case, "needed": needed_case, "hand": hand_case, "ends": end_case, "moment": moment_case,
    "kind": lambda rng: (drawn.sound_plan(rng, most=3, sheets="abc", flags=("u",)), test_labels.kind_of(rng)),
    "letters": letter_case, "told": test_readers.case, "cleared": test_trust.case, "holds": lie_case,
}

# Of each word: whether it stands, and the judge of the last column.
COLUMNS = {
    "sound": (plans.is_sound, plans.is_unsound),
    "plans": (turned.tell_alike, None),
    "alike": (free.alike, free.is_apart_paper),
    "orders": (orders.same_for_all, orders.is_other_paper),
    "right": (orders.right_for_all, orders.is_wrong_paper),
    "hit": (labels.is_right_hit, labels.is_hit_paper),
    "kind": (labels.is_right_kind, labels.is_kind_paper),
    "needed": (lambda *row: not changes.may_be_spared(*row), changes.is_spared_paper),
    "hand": (lambda *row: joins.at_hand(*row) != (), joins.is_none_paper),
    "ends": (lambda *row: not asked.can_fail(*row), deeds.is_failing_world),
    "moment": (lambda *row: branches.odd_world(*row) is None, branches.is_odd_world),
    "letters": (lambda *row: letters.bad_order(*row) is None, letters.is_bad_order),
    "told": (readers.is_told, readers.is_two_worlds),
    "cleared": (lambda *row: trust.wrong_world(*row) is None, trust.is_wrong_world),
    "holds": (lambda *row: liars.other_world(*row) is None, liars.is_other_world),
}

SEEING = [word for word in DRAW if word not in ("sound", "plans", "kind", "ends")]


def promises(seed, many):
    """So many of each word, by word."""
    return {word: [(word, *row) for row in drawn.draws(f"{seed} {word}", many, draw)] for word, draw in DRAW.items()}
