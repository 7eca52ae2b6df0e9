"""ASKERS, whose reads hang on what they have read: what is sure of them by what was noted."""

from reportalike.askers import Lore, sheets_of
from reportalike.errors import NoNumber, NoSpot, NotSound
from reportalike.forms import (
    are_names, as_set, is_ascending, is_name, is_name_set, is_number, is_part_of, is_tuple_of, tupled,
)
from reportalike.rows import only_fed
from reportalike.runs import is_counts, is_spot_form


def is_askplan(thing):
    if not isinstance(thing, tuple) or not all([is_asker(asker) for asker in thing]):
        return False
    feeders = {asker[0]: asker[1] for asker in thing}
    return is_ascending([asker[0] for asker in thing]) and not only_fed(feeders)


def is_asker(thing):
    if not is_tuple_of(thing, 3):
        return False
    sheet, first, may = thing
    if not is_name(sheet) or not are_names(first) or not is_name_set(may):
        return False
    return not any([one in may for one in (sheet, *first)])


def is_days(askplan, thing):
    if not isinstance(thing, tuple) or not thing or not all([is_counts(counts) for counts in thing]):
        return False
    sheets = sheets_of(askplan)
    unmade = sorted([sheet for sheet in sheets if not sheets[sheet]])
    return all([[sheet for sheet, _ in counts] == unmade for counts in thing])


def is_book(thing):
    if not is_tuple_of(thing, 4):
        return False
    askplan, days, notes, seen = thing
    if not is_askplan(askplan) or not is_days(askplan, days):
        return False
    return are_notes(askplan, days, notes) and are_seen(askplan, days, notes, seen)


def are_notes(askplan, days, thing):
    askers = {asker[0]: asker for asker in askplan}
    if not isinstance(thing, tuple) or not all([is_note(askers, days, note) for note in thing]):
        return False
    noted = {(day, sheet): True for day, sheet, _ in thing}
    if not is_ascending(thing) or len(noted) != len(thing):
        return False
    read = [(day, one) for day, sheet, asked in thing for one in (*askers[sheet][1], *asked)]
    return all([spot in noted for spot in read if spot[1] in askers])


def is_note(askers, days, thing):
    if not is_tuple_of(thing, 3):
        return False
    day, sheet, asked = thing
    if not is_number(day) or not 0 <= day < len(days) or not is_name(sheet) or sheet not in askers:
        return False
    return are_names(asked) and is_part_of(asked, askers[sheet][2]) and len(as_set(asked)) == len(asked)


def are_seen(askplan, days, notes, thing):
    """Whether thing is a set of pairs of SPOTS, the lesser first, with a NOTE or made by nobody."""
    if not isinstance(thing, tuple) or not all([is_tuple_of(pair, 2) for pair in thing]):
        return False
    if not all([is_spot_form(spot) for pair in thing for spot in pair]):
        return False
    sheets = sheets_of(askplan)
    sure = [(day, sheet) for day, _ in enumerate(days) for sheet in sheets if not sheets[sheet]]
    sure = sure + [(day, sheet) for day, sheet, _ in notes]
    if not all([spot in sure for pair in thing for spot in pair]):
        return False
    return all([one < other for one, other in thing]) and is_ascending(thing)


def book_agrees(book):
    return Lore(book).agrees


def lore_with(book, some):
    """The Lore; raises NoSpot for the first of some that is no SPOT."""
    lore = Lore(book)
    for day, sheet in some:
        if not 0 <= day < len(lore.days) or sheet not in lore.sheets:
            raise NoSpot((day, sheet))
    return lore


def way_of(book, day, sheet):
    return sure_way(lore_with(book, [(day, sheet)]), day, sheet)


def sure_way(lore, day, sheet):
    """The pair that way_of tells."""
    if sheet not in lore.askers:
        return (), True
    reads, _, is_told = lore.way(sheet, lore.held[day])
    return reads, is_told or is_part_of(lore.askers[sheet][2], reads)


def can_read(book, day, sheet):
    return open_way(lore_with(book, [(day, sheet)]), day, sheet)


def open_way(lore, day, sheet):
    """The set that can_read tells."""
    reads, is_end = sure_way(lore, day, sheet)
    return as_set(reads) if is_end else as_set([*reads, *lore.askers[sheet][2]])


def can_fail(book, day, sheet):
    return sheet not in lore_with(book, [(day, sheet)]).held[day]


def failing(book, day):
    lore = Lore(book)
    if not 0 <= day < len(lore.days):
        raise NoNumber(day)
    return as_set([sheet for sheet in lore.sheets if sheet not in lore.held[day]])


def asked_classes(book):
    lots = {}
    for day, held in enumerate(Lore(book).held):
        for sheet in sorted(held):
            lots.setdefault(held[sheet], []).append((day, sheet))
    return tuple(sorted([tuple(lots[number]) for number in lots]))


def is_alike(book, one, other):
    some = tupled((one, other))
    lore = lore_with(book, some)
    if any([sheet not in lore.held[day] for day, sheet in some]):
        raise NotSound()
    numbers = [lore.held[day][sheet] for day, sheet in some]
    return numbers[0] == numbers[1]


def note_for(book, day, sheet):
    lore = lore_with(book, [(day, sheet)])
    return lore.note(sheet, lore.held[day])
