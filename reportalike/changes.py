"""Changes from one RUN to another one, and what must be made again."""

from reportalike.books import Free, played
from reportalike.errors import NoOrder, NoPaper, NoSheet, NoStep
from reportalike.forms import as_set, orders_of, tupled
from reportalike.groups import free_book, links_of, makers_at, numbered
from reportalike.plans import felt_flags, sheet_told
from reportalike.runs import expect_spots, spots_in_pairs
from reportalike.worlds import agrees, is_world, laid_out, numbers_in


class Change:
    """Two RUNS, the first one made, and what was seen of both; raises NoSpot for the first in seen that is none."""

    def __init__(self, runs, seen):
        self.seen = tupled(seen)
        self.links = links_of(runs)
        expect_spots(self.links.table, spots_in_pairs(self.seen))
        self.steps = makers_at(runs)
        self.there = [spot for spot in self.links.row if spot[0] == 0 or spot not in self.steps]

    def expect(self, sheets):
        """Raises NoSheet for the first one that the second RUN does not have."""
        for sheet in sheets:
            if (1, sheet) not in self.links.table:
                raise NoSheet(sheet)

    def table(self, pairs):
        """The CLASSES, if these pairs were seen, too."""
        return numbered(self.links, [*self.seen, *pairs])

    def needed(self, targets, called, pairs):
        """A dict of the needed SHEETS, if these SPOTS were called, and these pairs were seen, too."""
        table = self.table(pairs)
        ready = {table[spot]: True for spot in [*self.there, *called]}
        found, waiting = {}, list(targets)
        while waiting:
            sheet = waiting.pop()
            if sheet not in found and table[(1, sheet)] not in ready:
                found[sheet] = True
                waiting.extend(self.steps[(1, sheet)][2])
        return found

    def next_spots(self, targets, called, pairs):
        """The SPOTS that can be called next: those of needed SHEETS of which the STEPS read none."""
        needed = self.needed(targets, called, pairs)
        ready = [sheet for sheet in needed if not any([read in needed for read in self.steps[(1, sheet)][2]])]
        return [(1, sheet) for sheet in sorted(ready)]

    def step(self, name):
        """The STEP of the second RUN with this name; raises NoStep if none runs there."""
        for (place, _), step in self.steps.items():
            if place == 1 and step[0] == name:
                return step
        raise NoStep(name)


class Looks:
    """What is looked at in a WORLD by one way, and seen to hold the same."""

    def __init__(self, change, numbers, way):
        self.change = change
        self.numbers = numbers
        self.way = way

    def pairs(self, called):
        """The pairs that were seen when these SPOTS were called."""
        if self.way == "own":
            own = [((0, sheet), (1, sheet)) for _, sheet in called if (0, sheet) in self.numbers]
            return [(one, other) for one, other in own if self.numbers[one] == self.numbers[other]]
        found, leads = [], {}
        if self.way == "all":
            for spot in [*self.change.there, *called]:
                found.append((leads.setdefault(self.numbers[spot], spot), spot))
        return found


def others(runs, seen):
    table = Change(runs, seen).table([])
    both = [sheet for place, sheet in table if place == 0 and (1, sheet) in table]
    return tuple([sheet for sheet in both if table[(0, sheet)] != table[(1, sheet)]])


def left_over(runs):
    change = Change(runs, ())
    made = [sheet for place, sheet in change.links.made if place == 0]
    return as_set([sheet for sheet in made if (1, sheet) not in change.links.table])


def taken_from(runs, seen, sheet):
    change = Change(runs, seen)
    change.expect([sheet])
    table = change.table([])
    same = [spot for spot in table if spot[0] == 0 and table[spot] == table[(1, sheet)]]
    return min(same, default=None)


def change_for(runs, seen, targets):
    """The Change; raises NoSheet for the first of the targets that the second RUN does not have."""
    change = Change(runs, seen)
    change.expect(targets)
    return change


def needed_sheets(runs, seen, targets):
    return as_set(list(change_for(runs, seen, targets).needed(targets, [], [])))


def fewest_calls(runs, seen, targets):
    change = change_for(runs, seen, targets)
    # By "none" as many are called whichever one is taken each time.
    called, ready = [], change.next_spots(targets, [], [])
    while ready:
        called.append(ready[0])
        ready = change.next_spots(targets, called, [])
    return len(called)


def steps_called(runs, seen, targets, world, way, order):
    change, row = change_for(runs, seen, targets), tupled(order)
    makers = {step[0]: spot for spot, step in change.steps.items() if spot[0] == 1}
    if sorted(row) != sorted(makers):
        raise NoOrder()
    looks = Looks(change, numbers_in(world, runs), way)
    names, called = [], []
    ready = change.next_spots(targets, called, looks.pairs(called))
    while ready:
        name = [one for one in row if makers[one] in ready][0]
        names.append(name)
        called.append(makers[name])
        ready = change.next_spots(targets, called, looks.pairs(called))
    return tuple(names)


def calls_in(runs, seen, targets, world, way):
    change = change_for(runs, seen, targets)
    looks = Looks(change, numbers_in(world, runs), way)
    lots, many, found = {(): True}, 0, []
    while lots:
        more = {}
        for called in lots:
            ready = change.next_spots(targets, called, looks.pairs(called))
            if not ready:
                found.append(many)
            for spot in ready:
                more[as_set([*called, spot])] = True
        lots, many = more, many + 1
    return as_set(found)


def sparing_table(change, step):
    """The CLASSES in a sparing WORLD in which SPOTS of unlike ones hold unlike numbers; None if there is none."""
    plain = change.table([])
    many = len(set([plain[spot] for spot in change.there]))
    for (place, _), other in change.steps.items():
        if place == 0 and other[1] == step[1] and len(other[2]) == len(step[2]):
            table = change.table([((0, first), (1, second)) for first, second in zip(other[2], step[2])])
            if len(set([table[spot] for spot in change.there])) == many:
                return table
    return None


def may_be_spared(runs, seen, name):
    change = Change(runs, seen)
    return sparing_table(change, change.step(name)) is not None


def spared_paper(runs, seen, name):
    change = Change(runs, seen)
    table = sparing_table(change, change.step(name))
    if table is None:
        raise NoPaper()
    return free_book(change.links, table).world()


def is_spared_paper(runs, seen, name, thing):
    change = Change(runs, seen)
    step = change.step(name)
    if not is_world(thing) or not agrees(thing, runs, seen):
        return False
    numbers, table = numbers_in(thing, runs), change.table([])
    if len(set([numbers[spot] for spot in change.there])) != len(set([table[spot] for spot in change.there])):
        return False
    asked = [numbers[(1, read)] for read in step[2]]
    first = [other for (place, _), other in change.steps.items() if place == 0 and other[1] == step[1]]
    return asked in [[numbers[(0, read)] for read in other[2]] for other in first]


def unfelt(one, other, sheet):
    book = Free()
    (plan, variant), (more, turned) = one, other
    return sheet_told(plan, sheet, variant, book) == sheet_told(more, sheet, turned, book)


def minded_flags(plan, sheet):
    # COUNTS that tell all SHEETS to both alike are whatever SHEETS hold ahead.
    return felt_flags(plan, sheet)


def contents_of(runs):
    """Of each RUN the pair of what its made SHEETS hold, and what all of them do, freely, as dicts."""
    book, found = Free(), []
    for steps, counts in laid_out(runs):
        held = played(steps, counts, book)
        made = {held[step[3]]: True for step in steps}
        found.append((made, {held[sheet]: True for sheet in held}))
    return found


def calls_in_row(runs, order, kept):
    return calls_by(contents_of(runs), order, kept)


def calls_by(contents, order, kept):
    there, many = {}, 0
    for place in order:
        made, ends = contents[place]
        many += len([number for number in made if number not in there])
        there = {**there, **ends} if kept == "all" else ends
    return many


def least_row(runs):
    contents = contents_of(runs)
    rows = orders_of(list(range(len(contents))))
    return min([(calls_by(contents, row, "last"), row) for row in rows])[1]
