"""What ASKERS do in one ASKWORLD, and on DAYS with new MARKS."""

from reportalike.asked import lore_with, open_way, sure_way
from reportalike.askers import Lore, played_day, walked
from reportalike.forms import (
    as_set, is_ascending, is_name, is_number, is_part_of, is_tuple_of, subsets_by_size, tupled,
)
from reportalike.worlds import is_contents


def is_askworld(thing):
    if not is_tuple_of(thing, 3):
        return False
    contents, deeds, rest = thing
    if not is_contents(contents) or not isinstance(deeds, tuple) or not is_number(rest):
        return False
    if not all([is_deed(deed) for deed in deeds]):
        return False
    return is_ascending([(sheet, read) for sheet, read, _ in deeds])


def is_deed(thing):
    if not is_tuple_of(thing, 3):
        return False
    sheet, read, what = thing
    if not is_name(sheet) or not isinstance(read, tuple) or not all([is_tuple_of(pair, 2) for pair in read]):
        return False
    return all([is_name(one) and is_number(number) for one, number in read]) and (is_name(what) or is_number(what))


class Told:
    """An ASKWORLD, to be asked often."""

    def __init__(self, world):
        contents, deeds, self.rest = tupled(world)
        self.marks = {mark: number for mark, number in contents}
        self.deeds = {(sheet, read): what for sheet, read, what in deeds}

    def asked(self, asker, state):
        sheet, _, may = asker
        what = self.deeds.get((sheet, state))
        return what if what in may and what not in [read for read, _ in state] else None

    def left(self, asker, state):
        what = self.deeds.get((asker[0], state), self.rest)
        return self.rest if isinstance(what, str) else what

    def held(self, askplan, counts):
        """What all SHEETS hold that do not fail on a DAY with these COUNTS."""
        start = {sheet: self.marks.get(mark, self.rest) for sheet, mark in counts}
        return played_day(askplan, start, self)


def day_played(askplan, counts, world):
    return tuple(sorted(Told(world).held(tupled(askplan), tupled(counts)).items()))


def read_in(askplan, counts, world, sheet):
    told, askers = Told(world), tupled(askplan)
    for asker in askers:
        if asker[0] == sheet:
            return walked(asker, told.held(askers, tupled(counts)), told)[0]
    return ()


def agrees_with(book, world):
    askplan, days, notes, seen = tupled(book)
    told = Told(world)
    held = [told.held(askplan, counts) for counts in days]
    askers = {asker[0]: asker for asker in askplan}
    for day, sheet, asked in notes:
        reads, end = walked(askers[sheet], held[day], told)
        if end is None or reads != (*askers[sheet][1], *asked):
            return False
    return all([held[day][sheet] == held[late][other] for (day, sheet), (late, other) in seen])


def free_askworld(book):
    return world_of(Lore(book))


def world_of(lore):
    """The ASKWORLD in which each ASKER does what the Lore tells, and each class is its number."""
    deeds = [(sheet, state, what) for (sheet, state), what in lore.deeds.items()]
    # A state comes once, so what is done behind it is never compared.
    return tuple(sorted(lore.marks.items())), tuple(sorted(deeds)), lore.many


def failing_world(book, day, sheet):
    lore = lore_with(book, [(day, sheet)])
    return None if sheet in lore.held[day] else world_of(lore)


def is_failing_world(book, day, sheet, thing):
    lore = lore_with(book, [(day, sheet)])
    if not is_askworld(thing) or not agrees_with(book, thing):
        return False
    return sheet not in Told(thing).held(list(lore.askers.values()), lore.days[day])


def must_look(book, day, sheet):
    lore = lore_with(book, [(day, sheet)])
    if lore.note(sheet, lore.held[day]) is None:
        return None
    unmade = [one for one, _ in lore.days[day]]
    return tuple([one for one in unmade if lore.note(sheet, lore.opened(day, (one,))) is None])


def openings(book, day, sheet):
    lore, found = lore_with(book, [(day, sheet)]), []
    for turn in subsets_by_size([one for one, _ in lore.days[day]]):
        if not any([is_part_of(less, turn) for less in found]) and sheet not in lore.opened(day, turn):
            found.append(turn)
    return sorted(found)


def sure_makes(book, day, sheet):
    lore = lore_with(book, [(day, sheet)])
    return made_for(lore, sheet, {one: sure_way(lore, day, one)[0] for one in lore.askers})


def can_make(book, day, sheet):
    lore = lore_with(book, [(day, sheet)])
    return made_for(lore, sheet, {one: open_way(lore, day, one) for one in lore.askers})


def made_for(lore, sheet, reads):
    """The set of the made SHEETS to which such reads lead from this one, itself too."""
    found, waiting = {}, [sheet]
    while waiting:
        one = waiting.pop()
        if one in lore.askers and one not in found:
            found[one] = True
            waiting.extend(reads[one])
    return as_set(list(found))
