"""The test's own look at ASKERS: slow and plain, and nothing of the package is used. BOOKS are drawn here, too."""

import random


def made(plan):
    return [asker[0] for asker in plan]


def sheets(plan):
    return sorted({one for asker in plan for one in (asker[0], *asker[1], *asker[2])})


def unmade(plan):
    return [sheet for sheet in sheets(plan) if sheet not in made(plan)]


def spots(book):
    return [(day, sheet) for day in range(len(book[1])) for sheet in sheets(book[0])]


class Ring(Exception):
    """An ASKER waits for its own SHEET, through however many."""


class Day:
    """A DAY, played by going through: each SHEET is made when it is asked for."""

    def __init__(self, plan, counts, act, contents):
        self.askers = {asker[0]: asker for asker in plan}
        self.start = {sheet: contents(mark) for sheet, mark in counts}
        self.act = act
        self.reads = {}
        self.ends = {}
        for sheet in sheets(plan):
            try:
                self.ends[sheet] = self.value(sheet, ())
            except Ring:
                pass

    def value(self, sheet, waiting):
        if sheet in self.start:
            return self.start[sheet]
        if sheet in waiting:
            raise Ring
        _, first, may = self.askers[sheet]
        row, state, left = [], (), list(first)
        while True:
            if left:
                what = left.pop(0)
            else:
                what = self.act(sheet, state, [one for one in may if one not in row])
            if isinstance(what, int):
                self.reads[sheet] = tuple(row)
                return what
            row.append(what)
            if not waiting:
                self.reads[sheet] = tuple(row)
            state = (*state, (what, self.value(what, (*waiting, sheet))))


def played(plan, counts, world):
    """The Day in this ASKWORLD."""
    contents, deeds, rest = dict(world[0]), {(sheet, read): what for sheet, read, what in world[1]}, world[2]

    def act(sheet, state, left):
        what = deeds.get((sheet, state), rest)
        return rest if isinstance(what, str) and what not in left else what

    return Day(plan, counts, act, lambda mark: contents.get(mark, rest))


def did(book, world):
    """Whether in this ASKWORLD all that the BOOK tells was done."""
    plan, days, notes, seen = book
    rows = [played(plan, counts, world) for counts in days]
    firsts = {asker[0]: asker[1] for asker in plan}
    for day, sheet, asked in notes:
        if sheet not in rows[day].ends or rows[day].reads[sheet] != (*firsts[sheet], *asked):
            return False
    return all(rows[one[0]].ends[one[1]] == rows[other[0]].ends[other[1]] for one, other in seen)


def is_askworld(thing):
    contents, deeds, rest = thing
    marks, rows = [mark for mark, _ in contents], [(sheet, read) for sheet, read, _ in deeds]
    numbers = [rest, *[number for _, number in contents], *[number for _, read, _ in deeds for _, number in read]]
    whats = [what for _, _, what in deeds]
    return (marks == sorted(set(marks)) and rows == sorted(set(rows)) and all(type(number) is int for number in numbers)
            and all(type(what) in (int, str) for what in whats) and type(contents) is type(deeds) is tuple)


def note_classes(book):
    """Of each SPOT with a NOTE, or made by nobody, its class, and of each such made one what was read."""
    plan, days, notes, seen = book
    firsts = {asker[0]: asker[1] for asker in plan}
    reads = {(day, sheet): (*firsts[sheet], *asked) for day, sheet, asked in notes}
    marks = {(day, sheet): mark for day, counts in enumerate(days) for sheet, mark in counts}
    lead = {spot: spot for spot in (*reads, *marks)}

    def put(one, other):
        old, new = lead[one], lead[other]
        for spot in lead:
            if lead[spot] == old:
                lead[spot] = new
        return old != new

    for one, other in seen:
        put(one, other)
    for one in marks:
        for other in marks:
            if marks[one] == marks[other]:
                put(one, other)
    changed = True
    while changed:
        changed = False
        for one in reads:
            for other in reads:
                if one[1] == other[1] and reads[one] == reads[other] and lead[one] != lead[other]:
                    if all(lead[(one[0], sheet)] == lead[(other[0], sheet)] for sheet in reads[one]):
                        changed = put(one, other) or changed
    return lead, reads


def agrees(book):
    """Whether there are ASKERS that did all this: no two NOTES of one ASKER are at odds, and none waited for itself."""
    lead, reads = note_classes(book)
    firsts = {asker[0]: asker[1] for asker in book[0]}
    for one in reads:
        for other in reads:
            if one[1] == other[1] and not go_together(one, other, lead, reads, len(firsts[one[1]])):
                return False
    done = set()
    while True:
        more = {spot for spot in reads if spot not in done and all(
            (spot[0], read) in done or (spot[0], read) not in reads for read in reads[spot])}
        if not more:
            return len(done) == len(reads)
        done |= more


def go_together(one, other, lead, reads, first):
    for at in range(max(len(reads[one]), len(reads[other])) + 1):
        whats = [reads[spot][at] if at < len(reads[spot]) else None for spot in (one, other)]
        if whats[0] != whats[1]:
            return at < first
        if whats[0] is None or lead[(one[0], whats[0])] != lead[(other[0], whats[0])]:
            return True
    return True


def some_world(rng, book, many, chance):
    """An ASKWORLD with which the BOOK agrees, drawn: few numbers are often the same; None if there came none.

    Where no NOTE tells what is done an ASKER asks for one more with this chance.
    """
    lead, reads = note_classes(book)
    plan, days, _, _ = book
    numbers = {spot: rng.randrange(many) for spot in lead}
    contents = {mark: numbers[lead[(day, sheet)]] for day, counts in enumerate(days) for sheet, mark in counts}
    firsts = {asker[0]: asker[1] for asker in plan}
    deeds = {}
    for spot, row in reads.items():
        state = ()
        for at, what in enumerate((*row, numbers[lead[spot]])):
            if at >= len(firsts[spot[1]]) and deeds.setdefault((spot[1], state), what) != what:
                return None
            if at < len(row):
                state = (*state, (what, numbers[lead[(spot[0], what)]]))

    def act(sheet, state, left):
        if (sheet, state) not in deeds:
            deeds[(sheet, state)] = rng.choice(left) if left and rng.random() < chance else rng.randrange(many)
        return deeds[(sheet, state)]

    rest = rng.randrange(many)
    for counts in days:
        Day(plan, counts, act, lambda mark: contents.get(mark, rest))
    return tuple(sorted(contents.items())), tuple(sorted((*key, what) for key, what in deeds.items())), rest


def drawn_plan(rng, most=4):
    names = list("abcde"[:rng.randint(1, most)])
    rng.shuffle(names)
    plan = []
    for at, name in enumerate(names):
        first = tuple(rng.choice([*names[:at], *"xyz"]) for _ in range(rng.choice((0, 1, 1, 1, 2, 3))))
        others = [one for one in [*names, *"xyz"] if one != name and one not in first]
        may = tuple(sorted(rng.sample(others, min(len(others), rng.choice((0, 1, 1, 2, 3))))))
        plan.append((name, first, may))
    return tuple(sorted(plan))


def drawn_days(rng, plan, most=4, marks="mnk"):
    return tuple(tuple((sheet, rng.choice(marks)) for sheet in unmade(plan)) for _ in range(rng.randint(1, most)))


def drawn_book(rng, most=4, chance=None):
    """A BOOK that agrees: ASKERS drawn were at work, and some of that was noted and seen."""
    plan = drawn_plan(rng, most)
    days = drawn_days(rng, plan, marks=rng.choice(("mn", "mnk", "mnklo")))
    many, asks = rng.choice((2, 9)), rng.choice((0.3, 0.6)) if chance is None else chance
    world = some_world(rng, (plan, days, (), ()), many, asks)
    rows = [played(plan, counts, world) for counts in days]
    firsts = {asker[0]: asker[1] for asker in plan}
    noted = []
    for day, row in enumerate(rows):
        spots_here = [(day, sheet) for sheet in made(plan) if sheet in row.ends and rng.random() < rng.choice((0.3, 0.6))]
        for spot in spots_here:
            spots_here.extend((day, one) for one in row.reads[spot[1]] if one in firsts and (day, one) not in spots_here)
        noted.extend(spots_here)
    notes = tuple(sorted({(day, sheet, rows[day].reads[sheet][len(firsts[sheet]):]) for day, sheet in noted}))
    row = [(day, sheet) for day in range(len(days)) for sheet in unmade(plan)] + sorted(set(noted))
    pairs = [(one, other) for one in row for other in row if one < other and rows[one[0]].ends[one[1]] == rows[other[0]].ends[other[1]]]
    seen = tuple(sorted(set(rng.sample(pairs, min(len(pairs), rng.choice((0, 0, 1, 2)))))))
    return plan, days, notes, seen


def drawn_books(seed, many, **more):
    rng = random.Random(seed)
    return [drawn_book(rng, **more) for _ in range(many)]


def agreeing_worlds(seed, book, tries=6):
    """Pairs of an ASKWORLD with which the BOOK agrees, and its days as they are played; the first ones are nearly free."""
    rng = random.Random(seed)
    worlds = [some_world(rng, book, 10 ** 9, chance) for chance in (0, 1)]
    for _ in range(tries):
        worlds.append(some_world(rng, book, rng.choice((2, 4, 9)), rng.choice((0.3, 0.7, 1))))
    return [(world, [played(book[0], counts, world) for counts in book[1]]) for world in worlds if world is not None]
