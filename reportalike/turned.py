"""PLANS turned into others that tell the same: fewer STEPS, fewer FLAGS, STEPS in two."""

from reportalike.books import Free, reading_row
from reportalike.errors import Twice
from reportalike.forms import as_set, is_ascending, is_name, is_name_set, is_part_of, is_tuple_of, subsets, tupled
from reportalike.plans import is_sound, needed_at, needed_some, sheet_told
from reportalike.steps import flags_in, is_plan, step_of, without_step, working


class Habitual:
    """A free book of METHODS that keep these HABITS."""

    def __init__(self, habits):
        self.words = {method: word for method, word in habits}
        self.free = Free()

    def held(self, mark):
        return self.free.held(mark)

    def told(self, method, ins):
        word = self.words.get(method)
        if word == "copy" and len(ins) == 1:
            return ins[0]
        return self.free.told(method, tuple(sorted(ins)) if word == "even" else ins)


def is_habits(thing):
    if not isinstance(thing, tuple) or not all([is_tuple_of(pair, 2) for pair in thing]):
        return False
    if not all([is_name(method) and word in ("copy", "even") for method, word in thing]):
        return False
    return is_ascending([method for method, _ in thing])


def tells_alike(one, other, variant, sheet, book):
    """Whether both PLANS leave the same in this SHEET at this VARIANT."""
    return sheet_told(one, sheet, variant, book) == sheet_told(other, sheet, variant, book)


def flags_of_both(one, other):
    return as_set([*flags_in(one), *flags_in(other)])


def tell_alike(one, other, goals, habits):
    return apart_at(one, other, goals, habits) is None


def apart_at(one, other, goals, habits):
    book = Habitual(habits)
    for variant in subsets(flags_of_both(one, other)):
        for sheet in goals:
            if not tells_alike(one, other, variant, sheet, book):
                return variant, sheet
    return None


def is_apart_at(one, other, goals, habits, thing):
    """Whether thing is such a pair, the least one or not."""
    if not is_tuple_of(thing, 2) or not is_name_set(thing[0]):
        return False
    variant, sheet = thing
    if not is_part_of(variant, flags_of_both(one, other)) or sheet not in goals:
        return False
    return not tells_alike(one, other, variant, sheet, Habitual(habits))


def least_steps(one, variant, goals):
    return len(least_plan(one, variant, goals))


def least_plan(one, variant, goals):
    names, book = needed_at(one, variant, goals), Free()
    steps = [step for step in reading_row(working(one, variant)) if step[0] in names]
    numbers, keepers = {}, {}
    for _, method, reads, sheet, _ in steps:
        ins = [numbers[read] if read in numbers else book.held(read) for read in reads]
        numbers[sheet] = book.told(method, tuple(ins))
        # Each goal must be made, and is read wherever what it holds is; other things are made once.
        if sheet in goals or numbers[sheet] not in keepers:
            keepers[numbers[sheet]] = sheet
    kept = [step for step in steps if step[3] in goals or keepers[numbers[step[3]]] == step[3]]
    return tuple(sorted([least_step(step, numbers, keepers) for step in kept]))


def least_step(step, numbers, keepers):
    """The STEP, running always, that reads what keeps the same as what it read."""
    name, method, reads, sheet, _ = step
    return name, method, tuple([keepers[numbers[read]] if read in numbers else read for read in reads]), sheet, ()


def is_least_plan(one, variant, goals, thing):
    if not is_plan(thing) or len(thing) != least_steps(one, variant, goals):
        return False
    if any([step[4] for step in thing]) or not is_sound(thing):
        return False
    book = Free()
    return all([tells_alike(one, thing, variant, sheet, book) for sheet in goals])


def fused(one, name, second):
    sheet, gone = step_of(one, name)[3], step_of(one, second)[3]
    return tuple([reading_other(step, gone, sheet) for step in without_step(one, second)])


def reading_other(step, gone, sheet):
    """The STEP that reads this SHEET wherever it read the one that is gone."""
    name, method, reads, own, condition = step
    return name, method, tuple([sheet if read == gone else read for read in reads]), own, condition


def can_fuse(one, name, second, goals, habits):
    return is_turned_well(one, fused(one, name, second), goals, habits) and name != second


def is_turned_well(one, other, goals, habits):
    """Whether the other PLAN is sound and tells goals alike."""
    return is_sound(other) and tell_alike(one, other, goals, habits)


def fusable(one, goals, habits):
    names = [step[0] for step in one]
    return [(name, second) for name in names for second in names if can_fuse(one, name, second, goals, habits)]


def without_flag(one, name, flag):
    old = step_of(one, name)
    return with_condition(one, name, tuple([pair for pair in old[4] if pair[0] != flag]))


def with_condition(plan, name, condition):
    """The PLAN with this CONDITION for the STEP with this name."""
    return tuple([(*step[:4], condition) if step[0] == name else step for step in tupled(plan)])


def idle_flags(one, goals, habits):
    pairs = [(step[0], flag) for step in one for flag, _ in step[4]]
    return tuple([
        (name, flag) for name, flag in pairs if is_turned_well(one, without_flag(one, name, flag), goals, habits)
    ])


def slimmed(one, goals):
    names = needed_some(one, goals)
    return tuple([step for step in tupled(one) if step[0] in names])


def parted(one, name, flag, new):
    _, method, reads, sheet, condition = step_of(one, name)
    if new in [step[0] for step in one]:
        raise Twice(new)
    off, on = [tuple(sorted([*condition, (flag, told)])) for told in (0, 1)]
    return tuple(sorted([*with_condition(one, name, off), (new, method, reads, sheet, on)]))
