"""What is kept of a RUN, and which STEPS are made again behind a turn of SHEETS that it needs."""

from reportalike.books import played, reading_row
from reportalike.forms import as_set, is_part_of, subsets_by_size, tupled
from reportalike.groups import classes_at, free_book, links_of, numbered
from reportalike.plans import needed_at
from reportalike.steps import counts_needed, working


class Keeping:
    """A RUN and its goals: the CLASSES of its SHEETS, who makes them, and what the made ones hang on."""

    def __init__(self, run, seen, goals):
        plan, variant, _ = run
        table = numbered(links_of((run,)), tupled(seen))
        self.classes = {sheet: number for (_, sheet), number in table.items()}
        self.goals = tupled(goals)
        self.needed = counts_needed(plan, variant)
        self.steps = {step[3]: step for step in reading_row(working(plan, variant))}
        self.hangs = {}
        for sheet, step in self.steps.items():
            self.hangs[sheet] = as_set([one for read in step[2] for one in self.hangs.get(read, (read,))])

    def again(self, kept, turn):
        """The set of the names of the STEPS made again behind this turn."""
        own = {self.classes[sheet]: True for sheet in kept}
        names, asked, waiting = [], {}, list(self.goals)
        while waiting:
            sheet = waiting.pop()
            if sheet in self.steps and sheet not in asked:
                asked[sheet] = True
                if self.classes[sheet] not in own or any([one in self.hangs[sheet] for one in turn]):
                    names.append(self.steps[sheet][0])
                    waiting.extend(self.steps[sheet][2])
        return as_set(names)

    def turns(self, kept, may, many):
        """Of each set of names made again behind a turn of at most so many SHEETS of may a shortest such turn."""
        found = {self.again(kept, ()): ()}
        for sheet in may:
            # Behind a turn just those are made again that are so behind one of its SHEETS, or behind none.
            names = self.again(kept, (sheet,))
            for ahead, turn in list(found.items()):
                more = as_set([*ahead, *names])
                if len(turn) < many and (more not in found or len(turn) + 1 < len(found[more])):
                    found[more] = (*turn, sheet)
        return found

    def most(self, kept, may, many):
        return max([len(names) for names in self.turns(kept, may, many)])


def made_again(run, seen, goals, kept, turn):
    return Keeping(run, seen, goals).again(kept, turn)


def most_made(run, seen, goals, kept, may, many):
    return Keeping(run, seen, goals).most(kept, may, many)


def turn_against(run, seen, goals, kept, may, many, most):
    for names, turn in Keeping(run, seen, goals).turns(kept, may, many).items():
        if len(names) > most:
            return turn
    return None


def least_promise(run, goals, may, many):
    # Who keeps all that is made makes again just what hangs on the turn, and that nobody is spared.
    keeping = Keeping(run, (), goals)
    return keeping.most(tuple(keeping.steps), may, many)


def some_kept(run, seen, goals, may, many, most):
    keeping = Keeping(run, seen, goals)
    if keeping.most(tuple(keeping.steps), may, many) > most:
        return None
    for kept in subsets_by_size(sorted(keeping.steps)):
        if keeping.most(kept, may, many) <= most:
            return kept
    return None


def forced_kept(run, seen, goals, may, many, most):
    keeping = Keeping(run, seen, goals)
    classes = {sheet: keeping.classes[sheet] for sheet in keeping.steps}
    forced = {}
    for number in classes.values():
        if number not in forced:
            others = tuple([sheet for sheet in classes if classes[sheet] != number])
            forced[number] = keeping.most(others, may, many) > most
    return as_set([sheet for sheet in classes if forced[classes[sheet]]])


def needless_kept(run, seen, goals, kept, may):
    keeping, sheets = Keeping(run, seen, goals), tupled(kept)
    turns = [(), *[(sheet,) for sheet in may]]
    lots = [keeping.again(sheets, turn) for turn in turns]
    found = []
    for sheet in sheets:
        fewer = tuple([one for one in sheets if one != sheet])
        if [keeping.again(fewer, turn) for turn in turns] == lots:
            found.append(sheet)
    return tuple(found)


def least_made(run, seen, goals, kept):
    keeping = Keeping(run, seen, goals)
    classes = keeping.classes
    makes = [(classes[sheet], [classes[read] for read in step[2]]) for sheet, step in keeping.steps.items()]
    aims = [classes[sheet] for sheet in keeping.goals]
    lots, many = {as_set([classes[sheet] for sheet in [*keeping.needed, *kept]]): True}, 0
    while not any([is_part_of(aims, lot) for lot in lots]):
        lots = {
            as_set([*lot, made]): True for lot in lots for made, reads in makes
            if made not in lot and is_part_of(reads, lot)
        }
        many += 1
    return many


def turn_asking(runs, seen, place, goals, spot, back, many):
    told, at = tupled((back, spot))
    links, table = classes_at(runs, tupled(seen), [at])
    book = free_book(links, table)
    plan, variant, counts = runs[place]
    steps, names = reading_row(working(plan, variant)), needed_at(plan, variant, goals)
    for turn in turns_back(told, many):
        # Nothing is seen of the turned RUN, so it puts none of the CLASSES together.
        new = {sheet: mark for sheet, mark in turn}
        held = played(steps, [(sheet, new.get(sheet, mark)) for sheet, mark in counts], book)
        if any([held[step[3]] == table[at] for step in steps if step[0] in names]):
            return turn
    return None


def turns_back(back, many):
    """All ascending tuples of at most so many pairs of a SHEET and one of the MARKS that back tells of it."""
    found = [()]
    for sheet, marks in back:
        found = found + [(*turn, (sheet, mark)) for turn in found for mark in marks if len(turn) < many]
    return found
