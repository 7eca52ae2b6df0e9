"""PLANS, RUNS and what goes with them, drawn in a fixed way: the same ones each time."""

import random

from tests import looks


def draws(seed, many, draw):
    """So many values, drawn by this function from a fixed row of numbers."""
    rng = random.Random(seed)
    return [draw(rng) for _ in range(many)]


def some_of(rng, row):
    return tuple(part for part in row if rng.random() < 0.5)


def plan(rng, most=4, sheets="abcde", methods="fg", flags=("u", "v"), reads=3):
    """A PLAN, sound or not."""
    steps = []
    for name in "pqrstwxy"[:rng.randint(0, most)]:
        condition = tuple((flag, rng.randint(0, 1)) for flag in some_of(rng, flags))
        row = tuple(rng.choice(sheets) for _ in range(rng.choice((0, 1, 1, 2, 2, 3)[:reads + 3])))
        steps.append((name, rng.choice(methods), row, rng.choice(sheets), condition))
    return tuple(steps)


def sound_plan(rng, **more):
    while True:
        drawn = plan(rng, **more)
        if looks.sound(drawn):
            return drawn


def dense_plan(rng, most=4, methods="fg", flags=("u",)):
    """A sound PLAN in which most STEPS read what others make."""
    many = rng.randint(2, most)
    names = rng.sample("pqrstwxy", many)
    steps = []
    for at, name in enumerate(names):
        condition = tuple((flag, rng.randint(0, 1)) for flag in flags if rng.random() < 0.15)
        row = tuple(rng.choice("abcdefgh"[:at + 1] + "z") for _ in range(rng.choice((0, 1, 1, 2, 2, 3))))
        row = tuple("abcdefgh"[at - 1] if read == "abcdefgh"[at] else read for read in row) if at else ("z",) * len(row)
        steps.append((name, rng.choice(methods), row, "abcdefgh"[at], condition))
    return tuple(sorted(steps))


def run(rng, full=False, marks="mnk", dense=False, **more):
    """A RUN; with full its COUNTS tell all that is read."""
    drawn = dense_plan(rng, **more) if dense else sound_plan(rng, **more)
    variant = some_of(rng, ("u", "v"))
    needed = looks.all_read(drawn, variant) if full else looks.needed(drawn, variant)
    extra = [sheet for sheet in "abcde" if rng.random() < 0.15]
    counts = tuple((sheet, rng.choice(marks)) for sheet in sorted(set(needed) | set(extra)))
    return drawn, variant, counts


def runs(rng, most=2, **more):
    return tuple(run(rng, **more) for _ in range(rng.randint(1, most)))


def seen(rng, some, most=3):
    """SEEN pairs of these RUNS."""
    row = looks.spots(some)
    pairs = [tuple(sorted((rng.choice(row), rng.choice(row)))) for _ in range(rng.randint(0, most) if row else 0)]
    return tuple(sorted(set(pair for pair in pairs if pair[0] != pair[1])))


def waits(rng, some, many=0.3):
    """WAITS of this RUN: pairs that keep to a row of its STEPS."""
    names = [step[0] for step in some[0]]
    rng.shuffle(names)
    pairs = [(one, other) for at, one in enumerate(names) for other in names[at + 1:]]
    return tuple(sorted(pair for pair in pairs if rng.random() < many))


def small_runs(rng, most=2, marks="mn"):
    """RUNS with few plain WORLDS, some SHEETS made in them."""
    while True:
        flags = rng.choice(((), ("u",)))
        found = tuple(run(rng, most=3, reads=0, marks=marks, flags=flags, sheets="abc") for _ in range(rng.randint(1, most)))
        if len(looks.made_spots(found)) > 1 and looks.how_many_plain(found, 2) < 300:
            return found


def wide_run(rng, most, marks="mnk"):
    """A RUN that needs several SHEETS, all of its STEPS running."""
    names = rng.sample("pqrstwxy", rng.randint(min(2, most), most))
    steps = []
    for at, name in enumerate(names):
        row = tuple(rng.choice("abcdefgh"[:at] + "zyx") for _ in range(rng.choice((1, 1, 2, 2, 3))))
        steps.append((name, rng.choice("fg"), row, "abcdefgh"[at], ()))
    drawn = tuple(sorted(steps))
    return drawn, some_of(rng, ("u",)), tuple((sheet, rng.choice(marks)) for sheet in looks.needed(drawn, ()))


def changed_run(rng, some, marks="mnk"):
    """A RUN that comes of this one by some changes."""
    while True:
        plan, variant, _ = some
        steps = [changed_step(rng, step) for step in plan if rng.random() < 0.9]
        if rng.random() < 0.3 and "z" not in [step[0] for step in steps]:
            steps.append(("z", "f", (rng.choice("abxyz"),), rng.choice(("k", "l")), ()))
        plan = tuple(sorted(steps))
        if looks.sound(plan):
            told = dict(some[2])
            needed = sorted({*looks.needed(plan, variant), *[sheet for sheet in "akz" if rng.random() < 0.1]})
            counts = [(sheet, told[sheet] if sheet in told and rng.random() < 0.7 else rng.choice(marks)) for sheet in needed]
            return plan, variant, tuple(counts)


def changed_step(rng, step):
    name, method, reads, sheet, condition = step
    chance = rng.random()
    if chance < 0.1:
        method = rng.choice("fg")
    elif chance < 0.2:
        reads = reads[::-1]
    elif chance < 0.27:
        reads = reads[:-1]
    elif chance < 0.34 and len(reads) < 3:
        reads = (*reads, rng.choice("xyz"))
    elif chance < 0.4:
        sheet = rng.choice("klmno")
    elif chance < 0.5 and reads:
        reads = (rng.choice("xyzab"), *reads[1:])
    return name, method, reads, sheet, condition


def world(rng, some, seen=(), many=2):
    """A WORLD of few numbers that agrees with SEEN."""
    for _ in range(12):
        rows, rest = {}, rng.randint(0, many)
        contents = {mark: rng.randrange(many) for run in some for _, mark in run[2]}

        def held(run, sheet):
            step = looks.maker_of(run, sheet)
            if step is None:
                return contents[dict(run[2])[sheet]]
            ins = tuple(held(run, read) for read in step[2])
            return rows.setdefault((step[1], ins), rng.randrange(many))

        told = {(place, sheet): held(run, sheet) for place, run in enumerate(some) for sheet in looks.held_sheets(run)}
        if all(told[one] == told[other] for one, other in seen):
            tables = tuple(sorted((method, ins, out) for (method, ins), out in rows.items()))
            return tuple(sorted(contents.items())), tables, rest
    return (), (), 5


def twin_runs(rng):
    """Two RUNS of two chains that are made alike, or nearly so, with few MARKS."""
    first, second = rng.choice(("tt", "ts")), rng.choice(("uu", "uu", "uv"))
    plan = (("c", first[0], ("x",), "f", ()), ("d", first[1], ("y",), "g", ()), ("e", second[0], ("f",), "h", ()),
            ("k", second[1], ("g",), "m", ()))
    runs = [(plan, (), (("x", rng.choice("pqr")), ("y", rng.choice("pqr")))) for _ in range(2)]
    if rng.random() < 0.3:
        runs[1] = changed_run(rng, runs[1], marks="pqr")
    return tuple(runs)
