"""What METHODS and MARKS give: by a WORLD, or freely, each thing that is new another number.

A book of either kind tells what a MARK holds and what a METHOD tells of some numbers.
"""


class Free:
    """A WORLD that grows as it is asked: what does not have to be the same gets unlike numbers."""

    def __init__(self):
        self.marks = {}
        self.rows = {}
        self.many = 0

    def fresh(self):
        self.many += 1
        return self.many - 1

    def held(self, mark):
        if mark not in self.marks:
            self.marks[mark] = self.fresh()
        return self.marks[mark]

    def told(self, method, ins):
        if (method, ins) not in self.rows:
            self.rows[(method, ins)] = self.fresh()
        return self.rows[(method, ins)]

    def world(self):
        """The WORLD of all that was asked; its rest is a number that nothing else has."""
        tables = [(method, ins, out) for (method, ins), out in self.rows.items()]
        return tuple(sorted(self.marks.items())), tuple(sorted(tables)), self.many


class Given:
    """A WORLD, to be asked often."""

    def __init__(self, world):
        contents, tables, self.rest = world
        self.marks = {mark: number for mark, number in contents}
        self.rows = {(method, tuple(ins)): out for method, ins, out in tables}

    def held(self, mark):
        return self.marks.get(mark, self.rest)

    def told(self, method, ins):
        return self.rows.get((method, ins), self.rest)


def reading_row(steps):
    """The STEPS in a row, each behind those that make what it reads, the least that can come first each time."""
    left, made, row = list(steps), {step[3]: True for step in steps}, []
    while left:
        at = [place for place, step in enumerate(left) if not any([read in made for read in step[2]])][0]
        row.append(left[at])
        del made[left[at][3]]
        del left[at]
    return row


def played(steps, counts, book):
    """What each SHEET holds in the end, if the STEPS are taken in this row behind these COUNTS."""
    return taken(steps, {sheet: book.held(mark) for sheet, mark in counts}, book)


def taken(steps, start, book):
    """The same behind what SHEETS hold at the start."""
    held = dict(start)
    for step in steps:
        held[step[3]] = book.told(step[1], tuple([held[read] for read in step[2]]))
    return held
