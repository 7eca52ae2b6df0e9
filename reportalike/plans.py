"""PLANS that are sound, orders for all VARIANTS, and the STEPS and FLAGS that a SHEET needs."""

from reportalike.books import Free
from reportalike.errors import NoOrder, NoPaper
from reportalike.forms import are_names, as_set, is_ascending, is_name_set, is_tuple_of, pairs_among
from reportalike.rows import ring_of, row_of
from reportalike.steps import counts_needed, flags_in, made_at, working, variants_of


def clash(one, other):
    return bool(one) and bool(other) and flag_at_odds((one, other)) is not None


def flag_at_odds(conditions):
    """A FLAG that has 1 in one of the CONDITIONS and 0 in another one; None if there is none."""
    told = {}
    for condition in conditions:
        for flag, on in condition:
            if told.setdefault(flag, on) != on:
                return flag
    return None


def makers_of(steps):
    """Of each SHEET that is made the list of the STEPS that make it."""
    makers = {}
    for step in steps:
        makers.setdefault(step[3], []).append(step)
    return makers


def feeders_of(steps):
    """Of the name of each STEP the list of the names of those that feed it and run with it at some VARIANT."""
    makers = makers_of(steps)
    return {
        step[0]: [one[0] for read in step[2] for one in makers.get(read, []) if not clash(one[4], step[4])]
        for step in steps
    }


def twins_in(steps):
    """Two makers of one SHEET that run together at some VARIANT, as a tuple; () if there are none."""
    makers = makers_of(steps)
    for sheet in makers:
        for one, other in pairs_among(makers[sheet]):
            if not clash(one[4], other[4]):
                return one, other
    return ()


def ring_in(steps):
    """The STEPS of a ring that run together at some VARIANT, each feeding the next; () if there is none."""
    waiting = [steps]
    while waiting:
        some = waiting.pop()
        table = {step[0]: step for step in some}
        ring = [table[name] for name in ring_of(feeders_of(some))]
        flag = flag_at_odds([step[4] for step in ring])
        if ring and flag is None:
            return tuple(ring)
        if ring:
            # No ring that runs together has STEPS of both kinds, so each kind is looked through without the other.
            for on in (0, 1):
                waiting.append([step for step in some if not asks_for(step[4], flag, on)])
    return ()


def asks_for(condition, flag, on):
    """Whether this FLAG must be so."""
    return any([one == flag and told == on for one, told in condition])


def is_sound(plan):
    return not twins_in(plan) and not ring_in(plan)


def unsound(plan):
    twins = twins_in(plan)
    bad = twins or ring_in(plan)
    if not bad:
        raise NoPaper()
    variant = as_set([flag for step in bad for flag, on in step[4] if on])
    word = "twice" if twins else "ring"
    return word, tuple([step[0] for step in bad]), variant


def is_unsound(plan, thing):
    if not is_tuple_of(thing, 3):
        return False
    word, names, variant = thing
    if not are_names(names) or not is_name_set(variant):
        return False
    table = {step[0]: step for step in working(plan, variant)}
    if not all([name in table for name in names]):
        return False
    steps = [table[name] for name in names]
    if word == "twice":
        return len(steps) == 2 and is_ascending(names) and steps[0][3] == steps[1][3]
    return word == "ring" and is_ring(steps)


def is_ring(steps):
    """Whether these are unlike STEPS, one at least, each feeding the next one, the last one the first."""
    if not steps or len(as_set([step[0] for step in steps])) != len(steps):
        return False
    return all([steps[at - 1][3] in step[2] for at, step in enumerate(steps)])


def one_order(plan):
    row = row_of(feeders_of(plan))
    if row is None:
        raise NoOrder()
    return row


def is_one_order(plan, thing):
    feeders = feeders_of(plan)
    if not are_names(thing) or sorted(thing) != sorted(feeders):
        return False
    places = {name: at for at, name in enumerate(thing)}
    return all([places[feeder] < places[name] for name in feeders for feeder in feeders[name]])


def loose_ring(plan):
    ring = ring_of(feeders_of(plan))
    if not ring:
        raise NoPaper()
    return ring


def is_loose_ring(plan, thing):
    table = {step[0]: step for step in plan}
    if not are_names(thing) or not all([name in table for name in thing]):
        return False
    steps = [table[name] for name in thing]
    return is_ring(steps) and not any([clash(steps[at - 1][4], step[4]) for at, step in enumerate(steps)])


def unmade_at(plan, sheet):
    for variant in variants_of(plan):
        if sheet not in made_at(plan, variant):
            return variant
    return None


def wanted(plan):
    return as_set([sheet for variant in variants_of(plan) for sheet in counts_needed(plan, variant)])


def needed_at(plan, variant, sheets):
    makers = makers_of(working(plan, variant))
    names, asked, waiting = [], {}, list(sheets)
    while waiting:
        sheet = waiting.pop()
        if sheet not in asked:
            asked[sheet] = True
            for step in makers.get(sheet, []):
                names.append(step[0])
                waiting.extend(step[2])
    return as_set(names)


def needed_some(plan, sheets):
    return as_set([name for variant in variants_of(plan) for name in needed_at(plan, variant, sheets)])


def needed_each(plan, sheets):
    lots = [needed_at(plan, variant, sheets) for variant in variants_of(plan)]
    return tuple([name for name in lots[0] if all([name in lot for lot in lots])])


def told_alike(plan, sheet, one, other):
    book = Free()
    return sheet_told(plan, sheet, one, book) == sheet_told(plan, sheet, other, book)


def sheet_told(plan, sheet, variant, book):
    """The number of what the SHEET holds in the end, each SHEET that is not made having a MARK of its own."""
    makers, held, waiting = {step[3]: step for step in working(plan, variant)}, {}, [sheet]
    # SHEETS wait here for those that they are made of, as STEPS may feed one another in a row of any length.
    while waiting:
        own = waiting.pop()
        if own not in makers:
            held[own] = book.held(own)
        elif own not in held:
            _, method, reads, _, _ = makers[own]
            missing = [read for read in reads if read not in held]
            if missing:
                waiting.extend([own, *missing])
            else:
                held[own] = book.told(method, tuple([held[read] for read in reads]))
    return held[sheet]


def felt_flags(plan, sheet):
    book, flags = Free(), flags_in(plan)
    told = {variant: sheet_told(plan, sheet, variant, book) for variant in variants_of(plan)}
    felt = []
    for flag in flags:
        for variant in told:
            if flag not in variant and told[variant] != told[as_set([*variant, flag])]:
                felt.append(flag)
    return as_set(felt)
