"""STEPS, their CONDITIONS, and PLANS of them."""

from reportalike.errors import NoStep, Twice
from reportalike.forms import are_names, as_set, is_ascending, is_name, is_number, is_tuple_of, subsets, tupled


def is_demand(thing):
    """Whether thing is a pair of a CONDITION."""
    return is_tuple_of(thing, 2) and is_name(thing[0]) and is_number(thing[1]) and thing[1] in (0, 1)


def is_condition(thing):
    if not isinstance(thing, tuple) or not all([is_demand(pair) for pair in thing]):
        return False
    return is_ascending([pair[0] for pair in thing])


def is_step(thing):
    if not is_tuple_of(thing, 5):
        return False
    name, method, reads, sheet, condition = thing
    return are_names((name, method, sheet)) and are_names(reads) and is_condition(condition)


def is_plan(thing):
    if not isinstance(thing, tuple) or not all([is_step(step) for step in thing]):
        return False
    return is_ascending([step[0] for step in thing])


def holds(condition, variant):
    return all([(flag in variant) == (on == 1) for flag, on in condition])


def running(plan, variant):
    return tuple([tupled(step) for step in working(plan, variant)])


def working(steps, variant):
    """Those of the STEPS that run at this VARIANT, as they are handed in."""
    return [step for step in steps if not step[4] or holds(step[4], variant)]


def step_of(plan, name):
    for step in plan:
        if step[0] == name:
            return tupled(step)
    raise NoStep(name)


def flags_in(plan):
    return as_set([flag for step in plan for flag, _ in step[4]])


def methods_in(plan):
    return as_set([step[1] for step in plan])


def sheets_in(plan):
    return as_set([sheet for step in plan for sheet in (*step[2], step[3])])


def variants_of(plan):
    return subsets(flags_in(plan))


def made_at(plan, variant):
    return as_set([step[3] for step in working(plan, variant)])


def counts_needed(plan, variant):
    steps = working(plan, variant)
    made = {step[3]: True for step in steps}
    return as_set([sheet for step in steps for sheet in step[2] if sheet not in made])


def maker(plan, variant, sheet):
    for step in working(plan, variant):
        if step[3] == sheet:
            return tupled(step)
    return None


def with_step(plan, step):
    if step[0] in [other[0] for other in plan]:
        raise Twice(step[0])
    return tuple(sorted(tupled([*plan, step])))


def without_step(plan, name):
    if name not in [step[0] for step in plan]:
        raise NoStep(name)
    return tupled([step for step in plan if step[0] != name])


def renamed_sheets(plan, pairs):
    names = {first: second for first, second in pairs}
    return tuple([renamed_step(step, names) for step in plan])


def renamed_step(step, names):
    name, method, reads, sheet, condition = step
    turned = tuple([names.get(read, read) for read in reads])
    return name, method, turned, names.get(sheet, sheet), tupled(condition)
