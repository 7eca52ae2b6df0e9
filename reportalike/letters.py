"""Late letters to a branch: what may stand in the end, and whether it does harm."""

from reportalike.books import reading_row, taken
from reportalike.forms import as_set, choices, is_number, is_tuple_of, subsets_by_size, tupled
from reportalike.groups import classes_at, free_book
from reportalike.plans import needed_at
from reportalike.runs import is_spot_form, spot_table
from reportalike.steps import counts_needed, working


def needs_of(runs):
    """The NEEDS: the SHEETS that now needs."""
    plan, variant, _ = runs[-1]
    return counts_needed(plan, variant)


def is_mix(runs, thing):
    needs = needs_of(runs)
    if not is_tuple_of(thing, len(needs)) or not all([is_spot_form(spot) for spot in thing]):
        return False
    table = spot_table(runs)
    return all([spot in table and spot[1] == sheet for spot, sheet in zip(thing, needs)])


class Anew:
    """A SHEET of now, done anew by MIXES; raises NoSpot if now has no such SHEET."""

    def __init__(self, runs, seen, sheet):
        self.spot = (len(runs) - 1, sheet)
        links, self.table = classes_at(runs, tupled(seen), [self.spot])
        plan, variant, _ = runs[-1]
        names = needed_at(plan, variant, (sheet,))
        self.steps = [step for step in reading_row(working(plan, variant)) if step[0] in names]
        self.needs = counts_needed(plan, variant)
        self.book = free_book(links, self.table)

    def is_right(self, mix):
        held = {sheet: self.table[spot] for sheet, spot in zip(self.needs, mix)}
        now = self.table[self.spot]
        # What is told, and not needed, is done by nobody, and stays what it is.
        return taken(self.steps, held, self.book).get(self.spot[1], now) == now

    def bad_mixes(self, lots):
        """All MIXES of one of each of the lots by which it is not right, ascending."""
        return [mix for mix in choices(lots) if not self.is_right(mix)]


def right_by(runs, seen, mix, sheet):
    return Anew(runs, seen, sheet).is_right(tupled(mix))


def may_stand(runs, have, letters):
    return standing_lots(tupled(have), tupled(letters))


def standing_lots(have, letters):
    return tuple([as_set([own, *[spot for spot in letters if spot[1] == own[1]]]) for own in have])


def bad_mix(runs, seen, have, letters, sheet):
    return next_of(Anew(runs, seen, sheet).bad_mixes(may_stand(runs, have, letters)))


def next_of(row):
    """The first one; None if there is none."""
    return row[0] if row else None


def turned_away(runs, seen, have, letters, sheet):
    own, sent = tupled((have, letters))
    bad = Anew(runs, seen, sheet).bad_mixes(standing_lots(own, sent))
    for places in subsets_by_size(list(range(len(sent)))):
        lots = standing_lots(own, [spot for place, spot in enumerate(sent) if place not in places])
        if not any([all([spot in lot for spot, lot in zip(mix, lots)]) for mix in bad]):
            return places
    return None


def last_ones(letters, kept):
    return tuple([(sheet, tuple(places)) for sheet, places in sorted(last_table(letters, kept).items())])


def last_table(letters, kept):
    """Of each SHEET with letters the places of those that may come last if all come."""
    nears, table = [near for near, _ in kept], {}
    for place, (_, sheet) in enumerate(letters):
        if place not in nears:
            table.setdefault(sheet, []).append(place)
    return table


def bad_lasts(anew, have, letters, kept):
    """All tuples of places, one of each SHEET with letters, by which it is not right if they come last."""
    table, found = last_table(letters, kept), []
    sheets = [own[1] for own in have if own[1] in table]
    for places in choices([table[sheet] for sheet in sheets]):
        last = {sheet: letters[place] for sheet, place in zip(sheets, places)}
        if not anew.is_right([last.get(own[1], own) for own in have]):
            found.append(places)
    return found


def bad_order(runs, seen, have, letters, kept, sheet):
    anew, own, sent = Anew(runs, seen, sheet), tupled(have), tupled(letters)
    lasts = next_of(bad_lasts(anew, own, sent, kept))
    if lasts is None:
        return None
    # A near one stands ahead of its far one as it was sent, and none of the last ones is a near one.
    return (*[place for place, _ in enumerate(sent) if place not in lasts], *lasts)


def is_bad_order(runs, seen, have, letters, kept, sheet, thing):
    anew = Anew(runs, seen, sheet)
    if not isinstance(thing, tuple) or not all([is_number(place) for place in thing]):
        return False
    if sorted(thing) != list(range(len(letters))):
        return False
    if any([thing.index(near) > thing.index(far) for near, far in kept]):
        return False
    last = {letters[place][1]: tupled(letters[place]) for place in thing}
    return not anew.is_right([last.get(own[1], own) for own in tupled(have)])


def fewest_kept(runs, seen, have, letters, sheet):
    anew, own, sent = Anew(runs, seen, sheet), tupled(have), tupled(letters)
    ends = {spot[1]: place for place, spot in enumerate(sent)}
    # Each letter but the last one of a SHEET can be kept ahead of that one; so one pair for each is enough.
    pairs = [(place, ends[spot[1]]) for place, spot in enumerate(sent) if ends[spot[1]] != place]
    for kept in subsets_by_size(pairs):
        if not bad_lasts(anew, own, sent, kept):
            return len(kept)
    return None
