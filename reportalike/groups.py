"""SPOTS that must hold the same: put together as far as SEEN pairs, MARKS and METHODS tell."""

from reportalike.books import Free
from reportalike.runs import expect_spots, spots_in_pairs
from reportalike.steps import working


class Groups:
    """Lots of SPOTS that were put together; each lot is told by one of its SPOTS, its lead."""

    def __init__(self, row):
        self.leads = {spot: spot for spot in row}
        self.lots = {spot: [spot] for spot in row}

    def put(self, one, other):
        """Puts the lots of both together; returns whether they were unlike ones."""
        first, second = self.leads[one], self.leads[other]
        if first == second:
            return False
        lot = self.lots.pop(second)
        self.lots[first].extend(lot)
        for spot in lot:
            self.leads[spot] = first
        return True


class Links:
    """Where SPOTS come from: each has a MARK, or something made it of what it read."""

    def __init__(self, made, marks):
        self.made = made
        self.marks = marks
        self.table = {spot: True for spot in [*made, *marks]}
        self.row = sorted(self.table)


def links_of(runs):
    """The Links of the SPOTS of RUNS: what made one is told by its METHOD."""
    made, marks = {}, {}
    for place, (plan, variant, counts) in enumerate(runs):
        for _, method, reads, sheet, _ in working(plan, variant):
            made[(place, sheet)] = (method, tuple([(place, read) for read in reads]))
        for sheet, mark in counts:
            if (place, sheet) not in made:
                marks[(place, sheet)] = mark
    return Links(made, marks)


def makers_at(runs):
    """Of each SPOT that is made the STEP that makes it."""
    return {(place, step[3]): step for place, run in enumerate(runs) for step in working(run[0], run[1])}


def joinings_of(links, seen):
    """All JOININGS [9] that put SPOTS together which were not, each one behind those that it needs."""
    groups = Groups(links.row)
    found = [("seen", at) for at, (one, other) in enumerate(seen) if groups.put(one, other)]
    holders = {}
    for spot, mark in links.marks.items():
        if groups.put(holders.setdefault(mark, spot), spot):
            found.append(("mark", holders[mark], spot))
    more = made_joinings(links, groups)
    while more:
        found.extend(more)
        more = made_joinings(links, groups)
    return found, groups


def made_joinings(links, groups):
    """The JOININGS by which METHODS, looked through once, put SPOTS together that were not."""
    makers, found, leads = {}, [], groups.leads
    for spot, (method, reads) in links.made.items():
        first = makers.setdefault((method, tuple([leads[read] for read in reads])), spot)
        if first != spot and groups.put(first, spot):
            found.append(("made", first, spot))
    return found


def numbered(links, seen):
    """Of each SPOT the number of its CLASS, numbered as they come."""
    _, groups = joinings_of(links, seen)
    numbers, table = {}, {}
    for spot in links.row:
        table[spot] = numbers.setdefault(groups.leads[spot], len(numbers))
    return table


def classes_at(runs, seen, some):
    """The Links of the SPOTS and the number of the CLASS of each one; raises NoSpot for the first that is none.

    It is looked for in seen, then in some; both have tuples for pairs, the RUNS may have lists.
    """
    links = links_of(runs)
    expect_spots(links.table, [*spots_in_pairs(seen), *some])
    return links, numbered(links, seen)


def free_book(links, table):
    """A book in which each SPOT holds the number of its CLASS."""
    book = Free()
    book.many = len(set(list(table.values())))
    for spot, mark in links.marks.items():
        book.marks[mark] = table[spot]
    for spot, (method, reads) in links.made.items():
        book.rows[(method, tuple([table[read] for read in reads]))] = table[spot]
    return book
