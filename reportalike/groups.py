"""SPOTS that must hold the same: put together as far as SEEN pairs, MARKS and METHODS tell."""

from reportalike.books import Free
from reportalike.steps import working


class Groups:
    """Lots of SPOTS that were put together; each lot is told by one of its SPOTS, its lead."""

    def __init__(self, row):
        self.leads = {spot: spot for spot in row}

    def lead(self, spot):
        at = spot
        while self.leads[at] != at:
            at = self.leads[at]
        self.leads[spot] = at
        return at

    def put(self, one, other):
        """Puts the lots of both together; returns whether they were unlike ones."""
        first, second = self.lead(one), self.lead(other)
        self.leads[second] = first
        return first != second


class Links:
    """Where SPOTS come from: each has a MARK, or something made it of what it read."""

    def __init__(self, row, made, marks):
        self.row = row
        self.made = made
        self.marks = marks


def links_of(runs):
    """The Links of the SPOTS of RUNS: what made one is told by its METHOD."""
    made, marks = {}, {}
    for place, (plan, variant, counts) in enumerate(runs):
        for _, method, reads, sheet, _ in working(plan, variant):
            made[(place, sheet)] = (method, tuple([(place, read) for read in reads]))
        told = [((place, sheet), mark) for sheet, mark in counts]
        marks.update({spot: mark for spot, mark in told if spot not in made})
    return Links(sorted([*made, *marks]), made, marks)


def makers_at(runs):
    """Of each SPOT that is made the STEP that makes it."""
    return {(place, step[3]): step for place, run in enumerate(runs) for step in working(run[0], run[1])}


def joinings_of(links, seen):
    """All JOININGS [9] that put SPOTS together which were not, each one behind those that it needs."""
    groups = Groups(links.row)
    found = [("seen", at) for at, (one, other) in enumerate(seen) if groups.put(one, other)]
    holders = {}
    for spot, mark in links.marks.items():
        if groups.put(holders.setdefault(mark, spot), spot):
            found.append(("mark", holders[mark], spot))
    more = made_joinings(links, groups)
    while more:
        found.extend(more)
        more = made_joinings(links, groups)
    return found, groups


def made_joinings(links, groups):
    """The JOININGS by which METHODS, looked through once, put SPOTS together that were not."""
    makers, found = {}, []
    for spot, (method, reads) in links.made.items():
        first = makers.setdefault((method, tuple([groups.lead(read) for read in reads])), spot)
        if groups.put(first, spot):
            found.append(("made", first, spot))
    return found


def numbered(links, seen):
    """Of each SPOT the number of its CLASS, numbered as they come."""
    _, groups = joinings_of(links, seen)
    numbers, table = {}, {}
    for spot in links.row:
        table[spot] = numbers.setdefault(groups.lead(spot), len(numbers))
    return table


def free_book(links, table):
    """A book in which each SPOT holds the number of its CLASS."""
    book = Free()
    book.many = len(set(list(table.values())))
    for spot, mark in links.marks.items():
        book.marks[mark] = table[spot]
    for spot, (method, reads) in links.made.items():
        book.rows[(method, tuple([table[read] for read in reads]))] = table[spot]
    return book
