"""The steps of a RUN under its WAITS: who is ahead of whom, what is read when, and the ORDERS there are."""

from reportalike.books import played, reading_row
from reportalike.forms import subsets
from reportalike.rows import ahead_table
from reportalike.steps import working


class Flow:
    """A RUN with its WAITS: its steps by their names, who makes what, and which steps are ahead of each one."""

    def __init__(self, run, waits):
        plan, variant, self.counts = run
        self.steps = {step[0]: step for step in working(plan, variant)}
        self.makers = {step[3]: name for name, step in self.steps.items()}
        table = ahead_table([step[0] for step in plan], waits)
        self.ahead = {name: {one: True for one in table[name] if one in self.steps} for name in self.steps}

    def kind(self, name, sheet):
        """The word for the read of this SHEET by this step."""
        if sheet not in self.makers:
            return "counts"
        if self.makers[sheet] in self.ahead[name]:
            return "late"
        return "early" if name in self.ahead[self.makers[sheet]] else "loose"

    def read_as(self, name, kinds):
        """The ascending list of the SHEETS that this step reads so, and that it does not make itself."""
        _, _, reads, own, _ = self.steps[name]
        return sorted(set([sheet for sheet in reads if sheet != own and self.kind(name, sheet) in kinds]))

    def patterns(self, name, kinds):
        """The sets of the SHEETS read so that can be made ahead of the step, with all that are made ahead of them."""
        sheets = self.read_as(name, kinds)
        return [some for some in subsets(sheets) if self.is_whole(some, sheets)]

    def is_whole(self, some, sheets):
        """Whether with each one all those of the SHEETS are in it whose makers are ahead of its maker."""
        needed = {name: True for sheet in some for name in self.ahead[self.makers[sheet]]}
        return all([sheet in some for sheet in sheets if self.makers[sheet] in needed])

    def end(self, order, book):
        """What each SHEET holds when the steps are taken in this order."""
        return played([self.steps[name] for name in order], self.counts, book)


def free_in(ahead, left):
    """Those of the steps left that can be taken next."""
    return [name for name in left if not any([one in ahead[name] for one in left])]


def without(left, name):
    return tuple([one for one in left if one != name])


def how_many_ways(ahead, left, kept):
    """In how many ways the steps left can be taken one behind another; kept has what was worked out before."""
    if not left:
        return 1
    if left not in kept:
        kept[left] = sum([how_many_ways(ahead, without(left, name), kept) for name in free_in(ahead, left)])
    return kept[left]


def first_order(ahead):
    """The least ORDER."""
    order, left = [], tuple(sorted(ahead))
    while left:
        name = free_in(ahead, left)[0]
        order.append(name)
        left = without(left, name)
    return tuple(order)


def order_by(flow, name, pattern):
    """An ORDER in which of the loose reads of this step just those in the pattern are behind their makers."""
    makers = [flow.makers[sheet] for sheet in pattern]
    early = {one: True for maker in makers for one in (maker, *flow.ahead[maker])}
    early = {**early, **flow.ahead[name]}
    row = first_order(flow.ahead)
    ahead = [one for one in row if one in early]
    behind = [one for one in row if one not in early and one != name]
    return tuple([*ahead, name, *behind])


def sure_ends(flow, book, kinds):
    """What each step leaves, if by all its patterns of these kinds it is one thing; and the first of which it is not.

    That one is told as a triple of its name and two patterns by which it leaves unlike things, None if there is none.
    Steps come behind the makers of what they read, so it is known there what these leave.
    """
    ahead = {sheet: book.held(mark) for sheet, mark in flow.counts}
    ends = {}
    for name, method, reads, sheet, _ in reading_row(list(flow.steps.values())):
        late = flow.read_as(name, ("late",))
        outs = {}
        for pattern in flow.patterns(name, kinds):
            held = [ends[read] if read in late or read in pattern else ahead[read] for read in reads]
            outs.setdefault(book.told(method, tuple(held)), pattern)
        found = list(outs)
        if len(found) > 1:
            return ends, (name, outs[found[0]], outs[found[1]])
        ends[sheet] = found[0]
    return ends, None
