"""SHEETS that may be wrong: what they reach, and which checks and reruns make others sure."""

from reportalike.books import reading_row, taken
from reportalike.errors import NoSheet
from reportalike.forms import is_part_of, new_names, subsets_by_size, tupled
from reportalike.groups import free_book, links_of, numbered
from reportalike.runs import expect_spots, held_sheets, spot_table, spots_in_pairs
from reportalike.steps import made_at, working
from reportalike.worlds import agrees, is_world, numbers_in


def expect_sheets(run, sheets):
    """Raises NoSheet for the first of these that the RUN has not."""
    held = held_sheets(run)
    for sheet in sheets:
        if sheet not in held:
            raise NoSheet(sheet)


def bad_run(run, bad):
    expect_sheets(run, bad)
    return run_with_bad(tupled(run), bad)


def run_with_bad(run, bad):
    plan, variant, counts = run
    gone = [step[0] for step in working(plan, variant) if step[3] in bad]
    marks = new_names(len(bad), [mark for _, mark in counts])
    told = {**{sheet: mark for sheet, mark in counts}, **{sheet: mark for sheet, mark in zip(bad, marks)}}
    return tuple([step for step in plan if step[0] not in gone]), variant, tuple(sorted(told.items()))


class Trust:
    """A RUN as it should be, and behind it the RUN as it stands; what was seen of the first one.

    Raises NoSpot for the first SPOT in seen that is none, then NoSheet for the first SHEET in bad, then in some.
    """

    def __init__(self, run, seen, bad, some):
        self.seen = tupled(seen)
        expect_spots(spot_table((run,)), spots_in_pairs(self.seen))
        expect_sheets(run, [*bad, *some])
        self.run = run
        self.runs = (run, run_with_bad(run, bad))
        self.links = links_of(self.runs)
        self.sheets = held_sheets(run)

    def table(self, checks):
        """The CLASSES, if the SHEETS of checks are right."""
        return numbered(self.links, [*self.seen, *[((0, sheet), (1, sheet)) for sheet in checks]])

    def right(self, checks):
        """The set of the SHEETS that are right then."""
        table = self.table(checks)
        return tuple([sheet for sheet in self.sheets if table[(0, sheet)] == table[(1, sheet)]])


def reached(run, seen, bad):
    trust = Trust(run, seen, bad, ())
    right = trust.right(())
    return tuple([sheet for sheet in trust.sheets if sheet not in right])


def surely_right(run, seen, bad, checks):
    return Trust(run, seen, bad, checks).right(checks)


def wrong_world(run, seen, bad, checks, sheet):
    trust = Trust(run, seen, bad, [*checks, sheet])
    table = trust.table(checks)
    if table[(0, sheet)] == table[(1, sheet)]:
        return None
    return free_book(trust.links, table).world()


def is_wrong_world(run, seen, bad, checks, sheet, thing):
    trust = Trust(run, seen, bad, [*checks, sheet])
    if not is_world(thing) or not agrees(thing, trust.runs, trust.seen):
        return False
    numbers = numbers_in(thing, trust.runs)
    right = [one for one in trust.sheets if numbers[(0, one)] == numbers[(1, one)]]
    return is_part_of(checks, right) and sheet not in right


def fewest_checks(run, seen, bad, wanted):
    trust = Trust(run, seen, bad, wanted)
    for checks in subsets_by_size(trust.sheets):
        if is_part_of(wanted, trust.right(checks)):
            return checks
    return tupled(wanted)


class Reruns:
    """A RUN with bad SHEETS, some of whose STEPS run once more."""

    def __init__(self, trust):
        self.table = trust.table(())
        self.book = free_book(trust.links, self.table)
        self.steps = reading_row(working(trust.run[0], trust.run[1]))
        self.sheets = trust.sheets

    def right(self, again):
        """The set of the SHEETS that are right behind that, if the STEPS that make these run once more."""
        start = {sheet: self.table[(1, sheet)] for sheet in self.sheets}
        # Nothing is seen of what is there behind that, so it puts no CLASSES together.
        held = taken([step for step in self.steps if step[3] in again], start, self.book)
        return tuple([sheet for sheet in self.sheets if held[sheet] == self.table[(0, sheet)]])


def behind_reruns(run, seen, bad, again):
    return Reruns(Trust(run, seen, bad, again)).right(again)


def fewest_reruns(run, seen, bad, wanted):
    reruns = Reruns(Trust(run, seen, bad, wanted))
    for again in subsets_by_size(made_at(run[0], run[1])):
        if is_part_of(wanted, reruns.right(again)):
            return again
    return None
