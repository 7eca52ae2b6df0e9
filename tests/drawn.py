"""PLANS, RUNS and what goes with them, drawn in a fixed way: the same ones each time."""

import random

from tests import looks


def draws(seed, many, draw):
    """So many values, drawn by this function from a fixed row of numbers."""
    rng = random.Random(seed)
    return [draw(rng) for _ in range(many)]


def some_of(rng, row):
    return tuple(part for part in row if rng.random() < 0.5)


def plan(rng, most=4, sheets="abcde", methods="fg", flags=("u", "v"), reads=3):
    """A PLAN, sound or not."""
    steps = []
    for name in "pqrstwxy"[:rng.randint(0, most)]:
        condition = tuple((flag, rng.randint(0, 1)) for flag in some_of(rng, flags))
        row = tuple(rng.choice(sheets) for _ in range(rng.choice((0, 1, 1, 2, 2, 3)[:reads + 3])))
        steps.append((name, rng.choice(methods), row, rng.choice(sheets), condition))
    return tuple(steps)


def sound_plan(rng, **more):
    while True:
        drawn = plan(rng, **more)
        if looks.sound(drawn):
            return drawn


def dense_plan(rng, most=4, methods="fg", flags=("u",)):
    """A sound PLAN in which most STEPS read what others make."""
    many = rng.randint(2, most)
    names = rng.sample("pqrstwxy", many)
    steps = []
    for at, name in enumerate(names):
        condition = tuple((flag, rng.randint(0, 1)) for flag in flags if rng.random() < 0.15)
        row = tuple(rng.choice("abcdefgh"[:at + 1] + "z") for _ in range(rng.choice((0, 1, 1, 2, 2, 3))))
        row = tuple("abcdefgh"[at - 1] if read == "abcdefgh"[at] else read for read in row) if at else ("z",) * len(row)
        steps.append((name, rng.choice(methods), row, "abcdefgh"[at], condition))
    return tuple(sorted(steps))


def run(rng, full=False, marks="mnk", dense=False, **more):
    """A RUN; with full its COUNTS tell all that is read."""
    drawn = dense_plan(rng, **more) if dense else sound_plan(rng, **more)
    variant = some_of(rng, ("u", "v"))
    needed = looks.all_read(drawn, variant) if full else looks.needed(drawn, variant)
    extra = [sheet for sheet in "abcde" if rng.random() < 0.15]
    counts = tuple((sheet, rng.choice(marks)) for sheet in sorted(set(needed) | set(extra)))
    return drawn, variant, counts


def runs(rng, most=2, **more):
    return tuple(run(rng, **more) for _ in range(rng.randint(1, most)))


def seen(rng, some, most=3):
    """SEEN pairs of these RUNS."""
    row = looks.spots(some)
    pairs = [tuple(sorted((rng.choice(row), rng.choice(row)))) for _ in range(rng.randint(0, most) if row else 0)]
    return tuple(sorted(set(pair for pair in pairs if pair[0] != pair[1])))


def waits(rng, some, many=0.3):
    """WAITS of this RUN: pairs that keep to a row of its STEPS."""
    names = [step[0] for step in some[0]]
    rng.shuffle(names)
    pairs = [(one, other) for at, one in enumerate(names) for other in names[at + 1:]]
    return tuple(sorted(pair for pair in pairs if rng.random() < many))
