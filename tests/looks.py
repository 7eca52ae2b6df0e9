"""The test's own look at what the document says: slow and plain, and nothing of the package is used."""

from functools import lru_cache
from itertools import chain, combinations, permutations, product


def subsets(row):
    """All ascending tuples of some of the row."""
    row = sorted(set(row))
    return sorted(chain.from_iterable(combinations(row, many) for many in range(len(row) + 1)))


def flags(plan):
    return tuple(sorted({flag for step in plan for flag, _ in step[4]}))


def on(step, variant):
    return all((flag in variant) == bool(told) for flag, told in step[4])


def working(plan, variant):
    return [step for step in plan if on(step, variant)]


def feeds(one, other):
    return one[3] in other[2]


def rings(steps):
    """All tuples of unlike STEPS, each feeding the next one, the last one the first."""
    found = []
    for many in range(1, len(steps) + 1):
        for row in permutations(steps, many):
            if all(feeds(row[at - 1], row[at]) for at in range(many)):
                found.append(row)
    return found


def sound(plan):
    for variant in subsets(flags(plan)):
        steps = working(plan, variant)
        made = [step[3] for step in steps]
        if len(set(made)) != len(made) or rings(steps):
            return False
    return True


def needed(plan, variant):
    steps = working(plan, variant)
    made = {step[3] for step in steps}
    return tuple(sorted({read for step in steps for read in step[2]} - made))


def all_read(plan, variant):
    return tuple(sorted({read for step in working(plan, variant) for read in step[2]}))


def maker_of(run, sheet):
    for step in working(run[0], run[1]):
        if step[3] == sheet:
            return step
    return None


def held_sheets(run):
    made = {step[3] for step in working(run[0], run[1])}
    return sorted(made | {sheet for sheet, _ in run[2]})


def spots(runs):
    return [(place, sheet) for place, run in enumerate(runs) for sheet in held_sheets(run)]


def term(run, sheet):
    """What the SHEET holds, as a tree: its MARK, or the METHOD and what was read."""
    step = maker_of(run, sheet)
    if step is None:
        return dict(run[2])[sheet]
    return (step[1], *[term(run, read) for read in step[2]])


def told(world, method, ins):
    for name, row, out in world[1]:
        if (name, row) == (method, ins):
            return out
    return world[2]


def held_mark(world, mark):
    return dict(world[0]).get(mark, world[2])


def held(world, run, sheet):
    step = maker_of(run, sheet)
    if step is None:
        return held_mark(world, dict(run[2])[sheet])
    return told(world, step[1], tuple(held(world, run, read) for read in step[2]))


def at(world, runs, spot):
    return held(world, runs[spot[0]], spot[1])


def agrees(world, runs, seen):
    return all(at(world, runs, one) == at(world, runs, other) for one, other in seen)


def is_world(thing):
    """Whether thing has the form of a WORLD, with what is ascending by comparison."""
    contents, tables, rest = thing
    if type(contents) is not tuple or type(tables) is not tuple or type(rest) is not int:
        return False
    if any(type(number) is not int for _, number in contents) or any(type(out) is not int for _, _, out in tables):
        return False
    marks, rows = [mark for mark, _ in contents], [row[:2] for row in tables]
    return marks == sorted(set(marks)) and rows == sorted(set(rows)) and all(type(ins) is tuple for _, ins in rows)


def plain_worlds(runs, many):
    """All plain WORLDS of these RUNS, ascending."""
    marks = sorted({mark for run in runs for _, mark in run[2]})
    kinds = {(step[1], len(step[2])) for run in runs for step in working(run[0], run[1])}
    rows = sorted((method, ins) for method, length in kinds for ins in product(range(many), repeat=length))
    found = []
    for numbers in product(range(many), repeat=len(marks) + len(rows)):
        contents = tuple(zip(marks, numbers))
        tables = tuple((method, ins, out) for (method, ins), out in zip(rows, numbers[len(marks):]))
        found.append((contents, tables, 0))
    return found


def how_many_plain(runs, many):
    marks = {mark for run in runs for _, mark in run[2]}
    kinds = {(step[1], len(step[2])) for run in runs for step in working(run[0], run[1])}
    return many ** (len(marks) + sum(many ** length for _, length in kinds))


class Terms:
    """Terms of MARKS and METHODS, all of them put together at once as far as they must be."""

    def __init__(self):
        self.nodes = {}

    def node(self, key):
        return self.nodes.setdefault(key, len(self.nodes))

    def of(self, run, sheet):
        step = maker_of(run, sheet)
        if step is None:
            return self.node(("mark", dict(run[2])[sheet]))
        return self.node((step[1], tuple(self.of(run, read) for read in step[2])))

    def classes(self, pairs):
        """A list: of each term its class, if both of each pair are put together."""
        lead = list(range(len(self.nodes)))

        def put(one, other):
            old, new = max(lead[one], lead[other]), min(lead[one], lead[other])
            for at, told in enumerate(lead):
                if told == old:
                    lead[at] = new
            return old != new

        for one, other in pairs:
            put(one, other)
        changed = True
        while changed:
            changed = False
            for (one, first), (other, second) in combinations(self.nodes.items(), 2):
                if one[0] != "mark" and one[0] == other[0] and len(one[1]) == len(other[1]):
                    if lead[first] != lead[second] and [lead[k] for k in one[1]] == [lead[k] for k in other[1]]:
                        changed = put(first, second) or changed
        return lead


def class_of(runs, seen):
    """Of each SPOT its class."""
    return dict(told_classes(tuple(runs), tuple(seen)))


@lru_cache(maxsize=None)
def told_classes(runs, seen):
    terms = Terms()
    nodes = {spot: terms.of(runs[spot[0]], spot[1]) for spot in spots(runs)}
    lead = terms.classes([(nodes[one], nodes[other]) for one, other in seen])
    return {spot: lead[node] for spot, node in nodes.items()}


def ahead_pairs(run, waits):
    """All pairs (one, other) of steps of which a row of WAITS leads from one to other."""
    pairs = set(waits)
    while True:
        more = pairs | {(one, last) for one, other in pairs for first, last in pairs if other == first}
        if more == pairs:
            break
        pairs = more
    names = {step[0] for step in working(run[0], run[1])}
    return {(one, other) for one, other in pairs if one in names and other in names}


def orders(run, waits):
    """All ORDERS, ascending."""
    names = sorted(step[0] for step in working(run[0], run[1]))
    pairs = ahead_pairs(run, waits)
    return [row for row in permutations(names) if all(row.index(one) < row.index(other) for one, other in pairs)]


def left(run, order, world):
    """What the SHEETS hold when the order is played in this WORLD."""
    table = {step[0]: step for step in run[0]}
    now = {sheet: held_mark(world, mark) for sheet, mark in run[2]}
    for name in order:
        _, method, reads, sheet, _ = table[name]
        now[sheet] = told(world, method, tuple(now[read] for read in reads))
    return now


def played(terms, run, order, start):
    """The same in terms, from what is there at the start."""
    table = {step[0]: step for step in run[0]}
    now = dict(start)
    for name in order:
        _, method, reads, sheet, _ = table[name]
        now[sheet] = terms.node((method, tuple(now[read] for read in reads)))
    return now


def at_start(terms, run):
    return {sheet: terms.node(("mark", mark)) for sheet, mark in run[2]}


def ends_again(terms, run, waits):
    """All that can be there in the end if ORDERS break off and are begun anew, as often as one likes."""
    rows = orders(run, waits)
    states = [at_start(terms, run)]
    for state in states:
        for row in rows:
            for many in range(len(row) + 1):
                more = played(terms, run, row[:many], state)
                if more not in states:
                    states.append(more)
    return [played(terms, run, row, state) for state in states for row in rows]


def made_spots(runs):
    """The SPOTS that are made, ascending."""
    return [spot for spot in spots(runs) if maker_of(runs[spot[0]], spot[1])]


def pairs_of(row):
    """All pairs of a row, the earlier one first."""
    return list(combinations(row, 2))


def numbers(world, runs):
    """What all SPOTS hold."""
    return {spot: at(world, runs, spot) for spot in spots(runs)}


def agreeing_worlds(runs, seen, many):
    """What all SPOTS hold in each plain WORLD that agrees."""
    tables = [numbers(world, runs) for world in plain_worlds(runs, many)]
    return [table for table in tables if all(table[one] == table[other] for one, other in seen)]


def rows_of_steps(run):
    """All rows in which the STEPS that run can be taken, each behind those that make what it reads."""
    steps = working(run[0], run[1])
    found = []
    for row in permutations(steps):
        if not any(feeds(later, step) for at, step in enumerate(row) for later in row[at + 1:]):
            found.append(row)
    return found
