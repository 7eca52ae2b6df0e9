"""ASKERS at work: what they read, and what comes of it, by a book that tells what each one does behind what it read.

A book of whatever kind tells what an ASKER asks for behind a state, None if it ends, and what its SHEET holds then.
A state is what it has read: a tuple of pairs of a SHEET and what that held.
"""

from reportalike.forms import tupled
from reportalike.groups import Links, numbered
from reportalike.rows import only_fed


def walked(asker, held, book):
    """What the ASKER reads, in order, and what its SHEET holds then; None if what it reads last is not held."""
    _, first, _ = asker
    reads, state = [], ()
    for read in first:
        reads.append(read)
        if read not in held:
            return tuple(reads), None
        state = (*state, (read, held[read]))
    what = book.asked(asker, state)
    while what is not None:
        reads.append(what)
        if what not in held:
            return tuple(reads), None
        state = (*state, (what, held[what]))
        what = book.asked(asker, state)
    return tuple(reads), book.left(asker, state)


def played_day(askers, start, book):
    """What all SHEETS hold that do not fail, if those that nobody makes hold what they do at the start."""
    held, waiting = start, askers
    while True:
        ends = {asker[0]: walked(asker, held, book)[1] for asker in waiting}
        came = {sheet: ends[sheet] for sheet in ends if ends[sheet] is not None}
        if not came:
            # Those that are left wait for one another.
            return held
        held = {**held, **came}
        waiting = [asker for asker in waiting if asker[0] not in came]


def sheets_of(askplan):
    """A dict with all SHEETS of an ASKPLAN: whether somebody makes it."""
    made = {sheet: True for sheet, _, _ in askplan}
    return {sheet: sheet in made for asker in askplan for sheet in (asker[0], *asker[1], *asker[2])}


class Lore:
    """What a BOOK tells: ASKERS that do what it tells, then ask for all that they may; classes are told by numbers."""

    def __init__(self, book):
        askplan, self.days, notes, self.seen = tupled(book)
        self.askers = {asker[0]: asker for asker in askplan}
        self.sheets = sheets_of(askplan)
        self.noted = {(day, sheet): (*self.askers[sheet][1], *asked) for day, sheet, asked in notes}
        links = self.links()
        table = numbered(links, self.seen)
        self.many = len(set(list(table.values())))
        self.marks = {mark: table[spot] for spot, mark in links.marks.items()}
        self.told = {}
        self.least = {}
        self.ends = {}
        self.deeds = {}
        self.agrees = not only_fed(self.feeders())
        for note in notes:
            self.agrees = self.take(note, table) and self.agrees
        self.held = [self.opened(day, ()) for day, _ in enumerate(self.days)] if self.agrees else []

    def links(self):
        """The SPOTS of the NOTES, made of what was read, and those that nobody makes."""
        marks = {(day, sheet): mark for day, counts in enumerate(self.days) for sheet, mark in counts}
        made = {}
        for (day, sheet), reads in self.noted.items():
            made[(day, sheet)] = ((sheet, reads), tuple([(day, read) for read in reads]))
        return Links(made, marks)

    def feeders(self):
        return {(day, sheet): [(day, read) for read in reads] for (day, sheet), reads in self.noted.items()}

    def take(self, note, table):
        """Puts down what was done by this NOTE; returns whether that is not at odds with the NOTES ahead of it."""
        day, sheet, asked = note
        state = tuple([(read, table[(day, read)]) for read in self.askers[sheet][1]])
        clear = True
        for what in (*asked, None):
            clear = self.told.setdefault((sheet, state), what) == what and clear
            if what is not None:
                state = (*state, (what, table[(day, what)]))
        self.least.setdefault((sheet, state), note)
        self.ends[(sheet, state)] = table[(day, sheet)]
        return clear

    def fresh(self):
        self.many += 1
        return self.many - 1

    def asked(self, asker, state):
        sheet, _, may = asker
        if (sheet, state) in self.told:
            what = self.told[(sheet, state)]
        else:
            reads = [read for read, _ in state]
            what = min([one for one in may if one not in reads], default=None)
        if what is not None:
            self.deeds[(sheet, state)] = what
        return what

    def left(self, asker, state):
        sign = (asker[0], state)
        if sign not in self.ends:
            self.ends[sign] = self.fresh()
        self.deeds[sign] = self.ends[sign]
        return self.ends[sign]

    def opened(self, day, turn):
        """The class of each SHEET that cannot fail on a DAY like this one, but for new MARKS of those in the turn."""
        start = {}
        for sheet, mark in self.days[day]:
            start[sheet] = self.fresh() if sheet in turn else self.marks[mark]
        return played_day(list(self.askers.values()), start, self)

    def way(self, sheet, held):
        """What the ASKER surely reads, in order, its state then, and whether a NOTE tells that it ends there."""
        _, first, _ = self.askers[sheet]
        # What can fail is held by no class, so it is not what was read by any NOTE.
        reads, state = list(first), tuple([(read, held.get(read)) for read in first])
        what = self.told.get((sheet, state))
        while what is not None:
            reads.append(what)
            state = (*state, (what, held.get(what)))
            what = self.told.get((sheet, state))
        return tuple(reads), state, (sheet, state) in self.told

    def note(self, sheet, held):
        """The least NOTE that is right for this SHEET on a DAY of these classes; None if there is none."""
        if sheet not in self.askers:
            return None
        _, state, is_told = self.way(sheet, held)
        return self.least[(sheet, state)] if is_told else None
