"""PLANS, RUNS, what was seen and WORLDS as texts, each text standing for just one thing."""

from reportalike.errors import BadText
from reportalike.forms import is_ascending, is_name, is_name_set
from reportalike.runs import is_counts, is_run
from reportalike.steps import is_plan
from reportalike.worlds import is_world

# Python itself reads no numbers that are very much longer.
MOST_DIGITS = 400


def expect(is_good):
    """Raises BadText if what was read is not good."""
    if not is_good:
        raise BadText()


def row_text(parts, sign):
    """The texts of the parts with the sign between two; "-" if there are none."""
    return sign.join(parts) if parts else "-"


def parts_of(text, sign):
    """The texts that stand so in this one."""
    return [] if text == "-" else text.split(sign)


def words_in(text):
    """The words with a blank between two; nothing stands for none."""
    return tuple(text.split(" ")) if text else ()


def number_in(text):
    digits = text[1:] if text.startswith("-") else text
    expect(digits.isascii() and digits.isdigit() and len(digits) <= MOST_DIGITS)
    expect(text == str(int(text)))
    return int(text)


def place_in(text):
    number = number_in(text)
    expect(number >= 0)
    return number


def plan_text(plan):
    return row_text([step_text(step) for step in plan], "; ")


def step_text(step):
    name, method, reads, sheet, condition = step
    told = name + ": " + method + "(" + " ".join(reads) + ") > " + sheet
    flags = [("+" if on else "-") + flag for flag, on in condition]
    return told + " if " + " ".join(flags) if flags else told


def plan_in(text):
    plan = tuple([step_in(part) for part in parts_of(text, "; ")])
    expect(is_plan(plan) and plan_text(plan) == text)
    return plan


def step_in(text):
    """The STEP with this text, if there is one; whether there is must be seen behind that."""
    name, _, told = text.partition(": ")
    method, _, behind = told.partition("(")
    reads, _, made = behind.partition(") > ")
    sheet, asks, flags = made.partition(" if ")
    condition = [(flag[1:], 1 if flag.startswith("+") else 0) for flag in flags.split(" ")] if asks else []
    return name, method, words_in(reads), sheet, tuple(condition)


def flags_text(variant):
    return row_text(variant, " ")


def variant_in(text):
    variant = tuple(parts_of(text, " "))
    expect(is_name_set(variant))
    return variant


def counts_text(counts):
    return row_text([sheet + "=" + mark for sheet, mark in counts], " ")


def counts_in(text):
    parts = [part.partition("=") for part in parts_of(text, " ")]
    counts = tuple([(sheet, mark) for sheet, _, mark in parts])
    expect(is_counts(counts))
    return counts


def run_text(run):
    plan, variant, counts = run
    return " @ ".join([plan_text(plan), flags_text(variant), counts_text(counts)])


def run_in(text):
    parts = text.split(" @ ")
    expect(len(parts) == 3)
    run = (plan_in(parts[0]), variant_in(parts[1]), counts_in(parts[2]))
    expect(is_run(run))
    return run


def runs_text(runs):
    return " | ".join([run_text(run) for run in runs])


def runs_in(text):
    return tuple([run_in(part) for part in text.split(" | ")])


def spot_text(spot):
    return str(spot[0]) + "." + spot[1]


def spot_in(text):
    place, _, sheet = text.partition(".")
    expect(is_name(sheet))
    return place_in(place), sheet


def seen_text(seen):
    return row_text([spot_text(one) + "~" + spot_text(other) for one, other in seen], " ")


def seen_in(text):
    parts = [part.partition("~") for part in parts_of(text, " ")]
    seen = tuple([(spot_in(one), spot_in(other)) for one, _, other in parts])
    expect(is_ascending(seen) and all([one < other for one, other in seen]))
    return seen


def world_text(world):
    contents, tables, rest = world
    held = row_text([mark + "=" + str(number) for mark, number in contents], " ")
    told = row_text([told_text(row) for row in tables], " | ")
    return "; ".join([held, told, str(rest)])


def told_text(row):
    method, ins, out = row
    return method + "(" + " ".join([str(number) for number in ins]) + ")=" + str(out)


def world_in(text):
    parts = text.split("; ")
    expect(len(parts) == 3)
    held = [part.partition("=") for part in parts_of(parts[0], " ")]
    contents = tuple([(mark, number_in(number)) for mark, _, number in held])
    tables = tuple([told_in(part) for part in parts_of(parts[1], " | ")])
    world = (contents, tables, number_in(parts[2]))
    expect(is_world(world))
    return world


def told_in(text):
    """The row of a METHOD with this text, if there is one."""
    method, _, told = text.partition("(")
    ins, _, out = told.partition(")=")
    return method, tuple([number_in(word) for word in words_in(ins)]), number_in(out)
