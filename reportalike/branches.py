"""Branches with copies of SHEETS, some of them old: of which RUNS they are, and what can be done on them."""

from reportalike.books import Given
from reportalike.errors import NoSheet, NoStep
from reportalike.forms import are_names, as_set, is_name, is_tuple_of, tupled
from reportalike.groups import classes_at, free_book
from reportalike.plans import needed_at
from reportalike.runs import is_spot_form, spot_table
from reportalike.steps import working
from reportalike.worlds import agrees, is_world, numbers_in


def steps_now(runs):
    """The STEPS of now that run, by their names."""
    plan, variant, _ = runs[-1]
    return {step[0]: step for step in working(plan, variant)}


def is_story(runs, thing):
    if not isinstance(thing, tuple):
        return False
    table, steps, has = spot_table(runs), steps_now(runs), {}
    for deed in thing:
        if not can_be_done(deed, table, steps, has):
            return False
        has[(deed[1], sheet_copied(deed, steps))] = True
    return True


def can_be_done(thing, table, steps, has):
    """Whether thing is a DEED, and what it copies or reads is there."""
    if is_tuple_of(thing, 4):
        return are_names(thing) and thing[0] == "lend" and (thing[2], thing[3]) in has
    if not is_tuple_of(thing, 3):
        return False
    word, branch, what = thing
    if word == "come":
        return is_name(branch) and is_spot_form(what) and what in table
    if word != "do" or not are_names(thing) or what not in steps:
        return False
    return all([(branch, read) in has for read in steps[what][2]])


def sheet_copied(deed, steps):
    """The SHEET of which the branch has a copy by this DEED."""
    if deed[0] == "come":
        return deed[2][1]
    return deed[3] if deed[0] == "lend" else steps[deed[2]][3]


def copies(runs, story, branch):
    steps = steps_now(runs)
    return as_set([sheet_copied(deed, steps) for deed in story if deed[1] == branch])


def played_story(runs, story, numbers, book):
    """What each copy holds, by its branch and SHEET, where SPOTS hold these numbers and METHODS tell by this book."""
    steps, held = steps_now(runs), {}
    for deed in story:
        at = (deed[1], sheet_copied(deed, steps))
        if deed[0] == "come":
            held[at] = numbers[deed[2]]
        elif deed[0] == "lend":
            held[at] = held[(deed[2], deed[3])]
        else:
            held[at] = given(steps[deed[2]], copies_at(held, deed[1]), book)
    return held


def copies_at(held, branch):
    """What the copies of this branch hold, by their SHEETS."""
    return {sheet: number for (own, sheet), number in held.items() if own == branch}


def given(step, own, book):
    """What the STEP gives of what these SHEETS hold; None if one that it reads is not there."""
    if any([read not in own for read in step[2]]):
        return None
    return book.told(step[1], tuple([own[read] for read in step[2]]))


class Tale:
    """A STORY beside its RUNS: of which CLASSES the SPOTS and the copies are."""

    def __init__(self, runs, seen, story):
        self.runs = runs
        links, self.table = classes_at(runs, tupled(seen), [])
        self.book = free_book(links, self.table)
        self.held = played_story(runs, tupled(story), self.table, self.book)

    def expect(self, some):
        """Raises NoSheet for the first pair (branch, sheet) of which there is no copy."""
        for branch, sheet in some:
            if (branch, sheet) not in self.held:
                raise NoSheet(sheet)

    def moments(self, branch, some):
        return moments_by(self.runs, self.table, copies_at(self.held, branch), some)


def moments_by(runs, numbers, own, some):
    """The places of the RUNS whose SHEETS hold what the copies of some do."""
    return [
        place for place, _ in enumerate(runs)
        if all([(place, sheet) in numbers and numbers[(place, sheet)] == own[sheet] for sheet in some])
    ]


def tale_with(runs, seen, story, branch, some):
    """The Tale; raises NoSheet for the first of some of which the branch has no copy."""
    tale = Tale(runs, seen, story)
    tale.expect([(branch, sheet) for sheet in some])
    return tale


def held_there(world, runs, story, branch):
    held = played_story(runs, tupled(story), numbers_in(world, runs), Given(world))
    return tuple(sorted(copies_at(held, branch).items()))


def same_copies(runs, seen, story, one, other):
    tale = Tale(runs, seen, story)
    first, second = tupled((one, other))
    tale.expect([first, second])
    return tale.held[first] == tale.held[second]


def moments(runs, seen, story, branch, some):
    return tuple(tale_with(runs, seen, story, branch, some).moments(branch, some))


def odd_world(runs, seen, story, branch, some):
    tale = tale_with(runs, seen, story, branch, some)
    return None if tale.moments(branch, some) else tale.book.world()


def is_odd_world(runs, seen, story, branch, some, thing):
    tale_with(runs, seen, story, branch, some)
    if not is_world(thing) or not agrees(thing, runs, seen):
        return False
    own = {sheet: number for sheet, number in held_there(thing, runs, story, branch)}
    return not moments_by(runs, numbers_in(thing, runs), own, some)


def unsettled(runs, seen, story, branch, row):
    tale, steps = Tale(runs, seen, story), steps_now(runs)
    for name in row:
        if name not in steps:
            raise NoStep(name)
    own, found = copies_at(tale.held, branch), []
    for name in row:
        sheet, number = steps[name][3], given(steps[name], own, tale.book)
        if number is None or own.get(sheet) != number:
            found.append(sheet)
    return as_set(found)


def doing_row(runs, seen, story, branch, sheet):
    tale = tale_with(runs, seen, story, branch, (sheet,))
    own, right = copies_at(tale.held, branch), tale.table.get((len(runs) - 1, sheet))
    if own[sheet] == right or right is None:
        return () if own[sheet] == right else None
    plan, variant, _ = tale.runs[-1]
    names = needed_at(plan, variant, (sheet,))
    steps = [step for name, step in sorted(steps_now(tale.runs).items()) if name in names]
    return shortest_row(steps, own, sheet, right, tale.book)


def shortest_row(steps, own, sheet, right, book):
    """The least of the shortest rows of the names of STEPS that bring this SHEET to hold the right; None without one.

    The STEPS are those that the SHEET needs, ascending; no other one reads the SHEET itself.
    """
    start = tuple(sorted(own.items()))
    rows, done = [((), start)], {start: True}
    while rows:
        more = []
        # Rows come ascending, and of those that lead to the same copies the first one is as good as any.
        for row, state in rows:
            there = {one: number for one, number in state}
            for step in steps:
                number = given(step, there, book)
                if step[3] == sheet and number == right:
                    return (*row, step[0])
                if step[3] == sheet or number is None:
                    continue
                behind = tuple(sorted({**there, step[3]: number}.items()))
                if behind not in done:
                    done[behind] = True
                    more.append(((*row, step[0]), behind))
        rows = more
    return None
