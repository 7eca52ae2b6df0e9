"""COUNTS, RUNS, their SPOTS, and what was seen of them."""

from reportalike.errors import NoSheet, NoSpot
from reportalike.forms import as_set, is_ascending, is_name, is_name_set, is_number, is_tuple_of, tupled
from reportalike.plans import is_sound
from reportalike.steps import counts_needed, is_plan, made_at, working


def is_counts(thing):
    if not isinstance(thing, tuple) or not all([is_tuple_of(pair, 2) for pair in thing]):
        return False
    if not all([is_name(sheet) and is_name(mark) for sheet, mark in thing]):
        return False
    return is_ascending([sheet for sheet, _ in thing])


def is_run(thing):
    if not is_tuple_of(thing, 3):
        return False
    plan, variant, counts = thing
    if not is_plan(plan) or not is_name_set(variant) or not is_counts(counts):
        return False
    return is_sound(plan) and untold(plan, variant, counts) is None


def untold(plan, variant, counts):
    """The least SHEET that is needed and not told; None if there is none."""
    told = {sheet: True for sheet, _ in counts}
    for sheet in counts_needed(plan, variant):
        if sheet not in told:
            return sheet
    return None


def is_runs(thing):
    return isinstance(thing, tuple) and len(thing) > 0 and all([is_run(run) for run in thing])


def is_spot(runs, thing):
    return is_spot_form(thing) and thing in spot_table(runs)


def is_spot_form(thing):
    return is_tuple_of(thing, 2) and is_number(thing[0]) and is_name(thing[1])


def is_seen(runs, thing):
    if not isinstance(thing, tuple) or not all([is_tuple_of(pair, 2) for pair in thing]):
        return False
    if not all([is_spot_form(spot) for pair in thing for spot in pair]):
        return False
    table = spot_table(runs)
    if not all([spot in table for pair in thing for spot in pair]):
        return False
    return all([one < other for one, other in thing]) and is_ascending(thing)


def new_run(plan, variant, counts):
    sheet = untold(plan, variant, counts)
    if sheet is not None:
        raise NoSheet(sheet)
    return tupled((plan, variant, counts))


def held_sheets(run):
    plan, variant, counts = run
    return as_set([*made_at(plan, variant), *[sheet for sheet, _ in counts]])


def mark_of(run, sheet):
    for told, mark in run[2]:
        if told == sheet:
            return mark
    return None


def cleaned(run):
    plan, variant, counts = run
    needed = counts_needed(plan, variant)
    return tupled((working(plan, variant), variant, [pair for pair in counts if pair[0] in needed]))


def spots(runs):
    return tuple(sorted(spot_table(runs)))


def spot_table(runs):
    """A dict with all SPOTS."""
    table = {}
    for place, (plan, variant, counts) in enumerate(runs):
        for sheet in [*[step[3] for step in working(plan, variant)], *[told for told, _ in counts]]:
            table[(place, sheet)] = True
    return table


def expect_spots(table, row):
    """Raises NoSpot for the first one in the row that is none in this table of all SPOTS."""
    for spot in row:
        if spot not in table:
            raise NoSpot(spot)


def spots_in_pairs(pairs):
    """The SPOTS of all pairs, in a row."""
    return [spot for pair in pairs for spot in pair]


def pair_of(one, other):
    return tuple(sorted([tupled(one), tupled(other)]))
