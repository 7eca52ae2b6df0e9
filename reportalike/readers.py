"""Readers who have some SPOTS: what they are told by these, and what stays a secret to them."""

from reportalike.forms import as_set, is_part_of, is_tuple_of, subsets_by_size, tupled
from reportalike.groups import classes_at, free_book
from reportalike.runs import expect_spots, spot_table, spots_in_pairs
from reportalike.worlds import agrees, is_world, numbers_in


class Telling:
    """The CLASSES of RUNS, and by which of them others are told.

    Raises NoSpot for the first SPOT in seen, then in some, that is none; these are tuples.
    """

    def __init__(self, runs, seen, some):
        self.links, self.table = classes_at(runs, tupled(seen), some)
        self.rules = [(self.table[one], self.numbers(reads)) for one, (_, reads) in self.links.made.items()]

    def numbers(self, row):
        """The numbers of the CLASSES of these SPOTS."""
        return [self.table[spot] for spot in row]

    def told(self, numbers):
        """A dict of the CLASSES that are told by these."""
        found, many = {number: True for number in numbers}, -1
        while many < len(found):
            many = len(found)
            for number, reads in self.rules:
                if number not in found and all([read in found for read in reads]):
                    found[number] = True
        return found

    def spots_of(self, numbers):
        """The set of the SPOTS of these CLASSES."""
        return tuple([spot for spot in self.table if self.table[spot] in numbers])


def told_spots(runs, seen, have):
    own = tupled(have)
    telling = Telling(runs, seen, own)
    return telling.spots_of(telling.told(telling.numbers(own)))


def is_told(runs, seen, have, spot):
    own, asked = tupled((have, spot))
    telling = Telling(runs, seen, (*own, asked))
    return telling.table[asked] in telling.told(telling.numbers(own))


def two_worlds(runs, seen, have, spot):
    own, asked = tupled((have, spot))
    telling = Telling(runs, seen, (*own, asked))
    told = telling.told(telling.numbers(own))
    if telling.table[asked] in told:
        return None
    book = free_book(telling.links, telling.table)
    # What is not told gets other numbers; no row has the same ins in both and another out, as those would tell it.
    moved = {one: number if number in told else number + book.many for one, number in telling.table.items()}
    contents, tables, rest = book.world()
    turned, more, _ = free_book(telling.links, moved).world()
    rows = as_set([*tables, *more])
    return (contents, rows, rest), (turned, rows, rest)


def is_two_worlds(runs, seen, have, spot, thing):
    pairs, own, asked = tupled((seen, have, spot))
    expect_spots(spot_table(runs), [*spots_in_pairs(pairs), *own, asked])
    if not is_tuple_of(thing, 2) or not all([is_world(world) for world in thing]):
        return False
    if thing[0][1:] != thing[1][1:] or not all([agrees(world, runs, pairs) for world in thing]):
        return False
    first, second = [numbers_in(world, runs) for world in thing]
    return all([first[one] == second[one] for one in own]) and first[asked] != second[asked]


def marks_that_matter(runs, seen, spot):
    asked = tupled(spot)
    telling = Telling(runs, seen, (asked,))
    marks, table = telling.links.marks, telling.table
    loose = {mark: table[one] for one, mark in marks.items()}
    fixed = as_set(telling.numbers(list(marks)))
    found = []
    for mark, number in loose.items():
        if table[asked] not in telling.told([one for one in fixed if one != number]):
            found.append(mark)
    return as_set(found)


def can_give(runs, seen, have, secret, spot):
    own, hidden, given = tupled((have, secret, spot))
    telling = Telling(runs, seen, (*own, *hidden, given))
    return not tells_some(telling.told(telling.numbers((*own, given))), telling.numbers(hidden))


def tells_some(told, numbers):
    """Whether some of these CLASSES are among those told."""
    return any([number in told for number in numbers])


def full_gifts(runs, seen, have, secret):
    own, hidden = tupled((have, secret))
    telling = Telling(runs, seen, (*own, *hidden))
    # What is told may be given, too, so that these sets are whole CLASSES.
    lots = full_lots(telling, telling.numbers(own), telling.numbers(hidden))
    return sorted([telling.spots_of(lot) for lot in lots])


def full_lots(telling, own, hidden):
    """The same as lots of CLASSES, in whatever order."""
    start, found = as_set(list(telling.told(own))), []
    waiting = [] if tells_some(start, hidden) else [start]
    met = {start: True}
    while waiting:
        lot = waiting.pop()
        others = [number for number in as_set(list(telling.table.values())) if number not in lot]
        greater = [as_set(list(telling.told([*lot, number]))) for number in others]
        allowed = [more for more in greater if not tells_some(more, hidden)]
        if not allowed:
            found.append(lot)
        for more in allowed:
            if more not in met:
                met[more] = True
                waiting.append(more)
    return found


def bands(runs, seen, haves, spot):
    lots, asked = tupled((haves, spot))
    telling = Telling(runs, seen, [*[one for own in lots for one in own], asked])
    found = []
    for band in subsets_by_size(list(range(len(lots)))):
        own = [one for reader in band for one in lots[reader]]
        if not any([is_part_of(less, band) for less in found]):
            if telling.table[asked] in telling.told(telling.numbers(own)):
                found.append(band)
    return sorted(found)
