"""Joins: two RUNS that both come from a third one, put together."""

from reportalike.books import played, reading_row
from reportalike.errors import NoPaper, NoSheet, NotSound
from reportalike.forms import as_set, subsets, tupled
from reportalike.groups import classes_at, free_book
from reportalike.plans import is_sound
from reportalike.runs import held_sheets, untold
from reportalike.steps import working
from reportalike.worlds import agrees, is_world, numbers_in


def items_of(run):
    """Of each ITEM at which the RUN has something what it has there."""
    plan, _, counts = run
    return {**{("count", sheet): mark for sheet, mark in counts}, **{("step", step[0]): step for step in plan}}


class Join:
    """Three RUNS as ITEMS: where left and right both come from base."""

    def __init__(self, base, left, right):
        runs = tupled((base, left, right))
        self.variant = runs[0][1]
        self.base, self.left, self.right = [items_of(run) for run in runs]
        self.row = as_set([*self.base, *self.left, *self.right])

    def clashing(self):
        return tuple([item for item in self.row if self.is_clash(item)])

    def is_clash(self, item):
        has = (self.base.get(item), self.left.get(item), self.right.get(item))
        return has[0] != has[1] and has[0] != has[2] and has[1] != has[2]

    def has(self, item, takes):
        """What the JOIN has at this ITEM; None if it has nothing there."""
        if self.left.get(item) == self.base.get(item) or (item in takes and self.is_clash(item)):
            return self.right.get(item)
        return self.left.get(item)

    def run(self, takes):
        """The JOIN; raises NotSound, then NoSheet, if it is no RUN."""
        told = [(item, self.has(item, takes)) for item in self.row]
        counts = tuple([(name, own) for (word, name), own in told if word == "count" and own is not None])
        plan = tuple([own for (word, _), own in told if word == "step" and own is not None])
        if not is_sound(plan):
            raise NotSound()
        sheet = untold(plan, self.variant, counts)
        if sheet is not None:
            raise NoSheet(sheet)
        return plan, self.variant, counts


def clashes(base, left, right):
    return Join(base, left, right).clashing()


def joined(base, left, right, takes):
    return Join(base, left, right).run(tupled(takes))


class Beside:
    """RUNS, what was seen of them, and RUNS more, of which nothing is seen: these put no CLASSES together."""

    def __init__(self, runs, seen):
        links, self.table = classes_at(runs, tupled(seen), [])
        self.book = free_book(links, self.table)
        self.had = {number: True for number in self.table.values()}

    def held(self, run):
        """The number of the CLASS of each SHEET of one RUN more, unlike those of all SPOTS where it is fresh."""
        plan, variant, counts = run
        return played(reading_row(working(plan, variant)), counts, self.book)


def held_with(beside, run, sheets):
    """What the SHEETS of the RUN hold; raises NoSheet for the first of these that is none."""
    held = beside.held(run)
    for sheet in sheets:
        if sheet not in held:
            raise NoSheet(sheet)
    return held


def at_hand(runs, seen, run, sheet):
    beside = Beside(runs, seen)
    number = held_with(beside, run, [sheet])[sheet]
    return tuple([spot for spot in beside.table if beside.table[spot] == number])


def fresh_sheets(runs, seen, run):
    beside = Beside(runs, seen)
    held = beside.held(run)
    return tuple([sheet for sheet in sorted(held) if held[sheet] not in beside.had])


def none_paper(runs, seen, run, sheet):
    beside = Beside(runs, seen)
    if held_with(beside, run, [sheet])[sheet] in beside.had:
        raise NoPaper()
    return beside.book.world()


def is_none_paper(runs, seen, run, sheet, thing):
    if sheet not in held_sheets(run):
        raise NoSheet(sheet)
    if not is_world(thing) or not agrees(thing, runs, seen):
        return False
    own = numbers_in(thing, (run,))[(0, sheet)]
    return own not in list(numbers_in(thing, runs).values())


def steps_wanted(runs, seen, run, sheets):
    beside = Beside(runs, seen)
    held = held_with(beside, run, sheets)
    plan, variant, _ = run
    makers = {}
    for step in working(plan, variant):
        makers.setdefault(held[step[3]], []).append(step)
    names, asked, waiting = [], {}, [held[sheet] for sheet in sheets]
    while waiting:
        number = waiting.pop()
        if number not in asked and number not in beside.had and number in makers:
            asked[number] = True
            # Those that make one thing read alike things, so the least one is as good as any other.
            names.append(makers[number][0][0])
            waiting.extend([held[read] for read in makers[number][0][2]])
    return as_set(names)


def idle_clashes(base, left, right, seen, sheet):
    join, beside = Join(base, left, right), Beside((base, left, right), seen)
    row = join.clashing()
    held = {takes: beside.held(join.run(takes))[sheet] for takes in subsets(row)}
    return tuple([item for item in row if is_idle(held, item)])


def is_idle(held, item):
    """Whether it is nothing if this one is taken, whatever else is."""
    with_it = [takes for takes in held if item in takes]
    return all([held[takes] == held[tuple([one for one in takes if one != item])] for takes in with_it])


def tree_runs(base, sides, tree):
    return joined_tree(base, sides, tree)[1]


def joined_tree(base, sides, tree):
    """The RUN that comes of the tree, and how many SHEETS are fresh in its JOINS."""
    if not isinstance(tree, (list, tuple)):
        return sides[tree], 0
    left, many = joined_tree(base, sides, tree[0])
    right, more = joined_tree(base, sides, tree[1])
    join = joined(base, left, right, ())
    return join, many + more + len(fresh_sheets((base, left, right), (), join))
