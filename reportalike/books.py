"""What METHODS and MARKS give: by a WORLD, or freely, each thing that is new another number.

A book of either kind tells what a MARK holds and what a METHOD tells of some numbers.
"""

from reportalike.rows import row_of


class Free:
    """A WORLD that grows as it is asked: what does not have to be the same gets unlike numbers."""

    def __init__(self):
        self.marks = {}
        self.rows = {}
        self.many = 0

    def fresh(self):
        self.many += 1
        return self.many - 1

    def held(self, mark):
        if mark not in self.marks:
            self.marks[mark] = self.fresh()
        return self.marks[mark]

    def told(self, method, ins):
        if (method, ins) not in self.rows:
            self.rows[(method, ins)] = self.fresh()
        return self.rows[(method, ins)]

    def world(self):
        """The WORLD of all that was asked; its rest is a number that nothing else has."""
        tables = [(method, ins, out) for (method, ins), out in self.rows.items()]
        return tuple(sorted(self.marks.items())), tuple(sorted(tables)), self.many


class Given:
    """A WORLD, to be asked often."""

    def __init__(self, world):
        contents, tables, rest = world
        self.marks = {mark: number for mark, number in contents}
        self.rows = {(method, ins): out for method, ins, out in tables}
        self.rest = rest

    def held(self, mark):
        return self.marks.get(mark, self.rest)

    def told(self, method, ins):
        return self.rows.get((method, ins), self.rest)


def reading_row(steps):
    """The STEPS in a row, each behind those that make what it reads, the least that can come first each time."""
    table = {step[0]: step for step in steps}
    makers = {step[3]: step[0] for step in steps}
    feeders = {step[0]: [makers[read] for read in step[2] if read in makers] for step in steps}
    return tuple([table[name] for name in row_of(feeders)])


def played(steps, counts, book):
    """What each SHEET holds in the end, if the STEPS are taken in this row behind these COUNTS."""
    return taken(steps, {sheet: book.held(mark) for sheet, mark in counts}, book)


def taken(steps, start, book):
    """The same behind what SHEETS hold at the start."""
    held = dict(start)
    for step in steps:
        held[step[3]] = book.told(step[1], tuple([held[read] for read in step[2]]))
    return held
