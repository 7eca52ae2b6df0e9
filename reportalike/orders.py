"""ORDERS: steps at any speeds, and what all of them leave alike."""

from reportalike.errors import NoNumber, NoOrder, NoPaper, NoSheet, NoStep
from reportalike.books import Given
from reportalike.flows import Flow, first_order, free_in, how_many_ways, order_by, sure_ends, without
from reportalike.forms import are_names, as_set, is_ascending, is_tuple_of, subsets, tupled
from reportalike.groups import classes_at, free_book
from reportalike.rows import ahead_table, only_fed
from reportalike.runs import held_sheets
from reportalike.worlds import agrees, held_at, is_world


def is_waits(run, thing):
    if not isinstance(thing, tuple) or not all([are_names(pair) and len(pair) == 2 for pair in thing]):
        return False
    feeders = {step[0]: [] for step in run[0]}
    for one, other in thing:
        if one not in feeders or other not in feeders:
            return False
        feeders[other].append(one)
    return is_ascending(thing) and not only_fed(feeders)


def flow_with(run, waits, name):
    """The Flow; raises NoStep if no step of it has this name."""
    flow = Flow(run, waits)
    if name not in flow.steps:
        raise NoStep(name)
    return flow


def ahead_of(run, waits, name):
    return as_set(list(flow_with(run, waits, name).ahead[name]))


def read_kind(run, waits, name, sheet):
    flow = flow_with(run, waits, name)
    if sheet not in flow.steps[name][2]:
        raise NoSheet(sheet)
    return flow.kind(name, sheet)


def patterns(run, waits, name):
    return flow_with(run, waits, name).patterns(name, ("loose",))


def is_order(run, waits, thing):
    return are_names(thing) and is_row_of(Flow(run, waits).ahead, thing)


def is_row_of(ahead, order):
    """Whether the NAMES are all steps, each once, each behind those ahead of it."""
    if sorted(order) != sorted(ahead):
        return False
    places = {name: at for at, name in enumerate(order)}
    return all([places[one] < places[name] for name in ahead for one in ahead[name]])


def how_many_orders(run, waits):
    ahead = Flow(run, waits).ahead
    return how_many_ways(ahead, tuple(sorted(ahead)), {})


def nth_order(run, waits, number):
    ahead = Flow(run, waits).ahead
    left, kept, order, skipped = tuple(sorted(ahead)), {}, [], number
    if not 0 <= number < how_many_ways(ahead, left, kept):
        raise NoNumber(number)
    while left:
        name, skipped = next_name(ahead, left, kept, skipped)
        order.append(name)
        left = without(left, name)
    return tuple(order)


def next_name(ahead, left, kept, number):
    """The first name of the row with this number of all rows of the steps left, and its number among those with it."""
    skipped = number
    for name in free_in(ahead, left):
        many = how_many_ways(ahead, without(left, name), kept)
        if skipped < many:
            return name, skipped
        skipped -= many
    raise NoNumber(number)


def number_of_order(run, waits, order):
    row, ahead = tupled(order), Flow(run, waits).ahead
    if not are_names(row) or not is_row_of(ahead, row):
        raise NoOrder()
    left, kept, number = tuple(sorted(ahead)), {}, 0
    for name in row:
        less = [one for one in free_in(ahead, left) if one < name]
        number += sum([how_many_ways(ahead, without(left, one), kept) for one in less])
        left = without(left, name)
    return number


def left_in(run, order, world):
    row, flow = tupled(order), Flow(run, ())
    if not are_names(row) or sorted(row) != sorted(flow.steps):
        raise NoOrder()
    return tuple(sorted(flow.end(row, Given(world)).items()))


def expect_place(runs, place):
    if not 0 <= place < len(runs):
        raise NoNumber(place)


def studied(runs, seen, place, waits):
    """The Flow of this RUN, the CLASSES of all SPOTS, and a free book of them; raises NoNumber for the place."""
    expect_place(runs, place)
    links, table = classes_at(runs, tupled(seen), [])
    return Flow(runs[place], waits), table, free_book(links, table)


def same_for_all(runs, seen, place, waits):
    flow, _, book = studied(runs, seen, place, waits)
    _, unsure = sure_ends(flow, book, ("loose",))
    return unsure is None


def right_for_all(runs, seen, place, waits):
    flow, table, book = studied(runs, seen, place, waits)
    ends, unsure = sure_ends(flow, book, ("loose",))
    return unsure is None and all([ends[sheet] == table[(place, sheet)] for sheet in ends])


def again_for_all(runs, seen, place, waits):
    flow, _, book = studied(runs, seen, place, waits)
    # What is begun anew may find what any step left before, so a read that is early is as open as a loose one.
    _, unsure = sure_ends(flow, book, ("early", "loose"))
    return unsure is None


def other_paper(runs, seen, place, waits):
    flow, _, book = studied(runs, seen, place, waits)
    _, unsure = sure_ends(flow, book, ("loose",))
    if unsure is None:
        raise NoPaper()
    name, first, second = unsure
    # The book has what this step and those that it reads from leave by each pattern, so the world has it, too.
    return order_by(flow, name, first), order_by(flow, name, second), book.world(), flow.steps[name][3]


def wrong_paper(runs, seen, place, waits):
    flow, table, book = studied(runs, seen, place, waits)
    ends, unsure = sure_ends(flow, book, ("loose",))
    tries = [(first_order(flow.ahead), sheet) for sheet in sorted(ends)]
    if unsure is not None:
        # Two ORDERS that leave unlike things there are not both right.
        name, first, second = unsure
        tries = [(order_by(flow, name, pattern), flow.steps[name][3]) for pattern in (first, second)]
    for order, sheet in tries:
        if flow.end(order, book)[sheet] != table[(place, sheet)]:
            return order, book.world(), sheet
    raise NoPaper()


def is_other_paper(runs, seen, place, waits, thing):
    expect_place(runs, place)
    if not is_tuple_of(thing, 4):
        return False
    one, other, world, sheet = thing
    if not is_order(runs[place], waits, one) or not is_order(runs[place], waits, other):
        return False
    if not is_world_with(runs, seen, place, world, sheet):
        return False
    return holds_behind(runs[place], one, world, sheet) != holds_behind(runs[place], other, world, sheet)


def is_wrong_paper(runs, seen, place, waits, thing):
    expect_place(runs, place)
    if not is_tuple_of(thing, 3):
        return False
    order, world, sheet = thing
    if not is_order(runs[place], waits, order) or not is_world_with(runs, seen, place, world, sheet):
        return False
    return holds_behind(runs[place], order, world, sheet) != held_at(world, runs, (place, sheet))


def is_world_with(runs, seen, place, world, sheet):
    """Whether this is a WORLD that agrees with seen, and a SHEET of the RUN with this place."""
    if not is_world(world) or sheet not in held_sheets(runs[place]):
        return False
    return agrees(world, runs, seen)


def holds_behind(run, order, world, sheet):
    """What the SHEET holds when the order is played in this WORLD."""
    return Flow(run, ()).end(order, Given(world))[sheet]


def loosest(run, waits):
    flow = Flow(run, waits)
    pairs = [(one, name) for name in flow.ahead for one in flow.ahead[name]]
    for name, step in flow.steps.items():
        pairs.extend([(flow.makers[read], name) for read in step[2] if read in flow.makers])
    table = ahead_table(list(flow.steps), pairs)
    if any([name in table[name] for name in table]):
        raise NoOrder()
    return as_set([(one, name) for name in table for one in nearest(table, name)])


def nearest(table, name):
    """Those ahead of this one that are not ahead of another one that is."""
    return [one for one in table[name] if not any([one in table[middle] for middle in table[name]])]


def fewest_rounds(run, waits, hands):
    ahead = Flow(run, waits).ahead
    lots, rounds = {tuple(sorted(ahead)): True}, 0
    while () not in lots:
        lots = {left: True for before in lots for left in behind_round(ahead, before, hands)}
        rounds += 1
    return rounds


def behind_round(ahead, left, hands):
    """What can be left behind a round, each of the sets once; a round that takes fewer than it can is no better."""
    ready = free_in(ahead, left)
    many = min(hands, len(ready))
    taken = [some for some in subsets(ready) if len(some) == many]
    return [tuple([name for name in left if name not in some]) for some in taken]
