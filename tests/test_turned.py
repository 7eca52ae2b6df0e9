"""turned.py: PLANS turned into others that tell the same."""

import random
import unittest
from itertools import combinations, product

from reportalike.errors import NoStep, Twice
from reportalike.plans import is_sound, needed_some
from reportalike.steps import is_plan
from reportalike.turned import (
    apart_at, can_fuse, fusable, fused, idle_flags, is_habits, is_least_plan, least_plan, least_steps, parted, slimmed,
    tell_alike, without_flag,
)
from tests import drawn, looks
from tests.things import PLAIN, spoiled

EVEN = (("draft", "sum", ("in", "old"), "out", (("fast", 0),)), ("quick", "sum", ("old", "in"), "out", (("fast", 1),)),
        ("tell", "put", ("out",), "page", ()))
FLAT = (("draft", "sum", ("in", "old"), "page", ()),)
TWICE = (("a", "m", ("in",), "f", ()), ("b", "m", ("in",), "g", ()), ("c", "n", ("f", "g"), "h", ()), ("d", "n", ("g", "f"), "k", ()))
ALL_HABITS = ((), (("f", "copy"),), (("f", "even"),), (("f", "copy"), ("g", "even")), (("f", "even"), ("g", "copy")), (("h", "even"), ("k", "copy")))


def term(plan, variant, sheet, habits):
    """The test's own look: what the SHEET holds, as a tree in which METHODS that keep HABITS are gone or sorted."""
    for _, method, reads, own, _ in looks.working(plan, variant):
        if own == sheet:
            parts = [term(plan, variant, read, habits) for read in reads]
            word = dict(habits).get(method)
            if word == "copy" and len(parts) == 1:
                return parts[0]
            return (method, *(sorted(parts, key=repr) if word == "even" else parts))
    return sheet


def all_variants(one, other):
    return looks.subsets({flag for plan in (one, other) for step in plan for flag, _ in step[4]})


def apart(one, other, goals, habits):
    """All pairs (variant, sheet) at which they don't tell goals alike."""
    return [(variant, sheet) for variant in all_variants(one, other) for sheet in goals
            if term(one, variant, sheet, habits) != term(other, variant, sheet, habits)]


def steps_for(plan, variant, goals):
    """How few STEPS: one for each thing that is made, but as many as there are goals that hold it."""
    made = [sheet for sheet in goals if type(term(plan, variant, sheet, ())) is tuple]
    goal_terms, parts = [term(plan, variant, sheet, ()) for sheet in made], []
    waiting = list(goal_terms)
    while waiting:
        one = waiting.pop()
        if type(one) is tuple:
            parts.append(one)
            waiting.extend(one[1:])
    return sum(max(1, goal_terms.count(one)) for one in set(parts))


def changed(rng, plan):
    """A sound PLAN that comes of this one."""
    while True:
        steps = [drawn.changed_step(rng, step) if rng.random() < 0.3 else step for step in plan if rng.random() < 0.95]
        steps = [(*step[:4], tuple(pair for pair in step[4] if rng.random() < 0.8)) for step in steps]
        if looks.sound(steps):
            return tuple(steps)


def flagged(rng):
    """A sound PLAN in which SHEETS have several makers."""
    while True:
        steps = []
        for name, flag in zip("pqrstw", "uuvvuv"):
            reads = tuple(rng.choice("abcxy") for _ in range(rng.choice((0, 1, 1, 2, 2))))
            condition = rng.choice(((), ((flag, 0),), ((flag, 1),), ((flag, 1),)))
            steps.append((name, rng.choice("fg"), reads, rng.choice("abcde"), condition))
        plan = tuple(steps[:rng.randint(2, 6)])
        if looks.sound(plan):
            return plan


def case(rng):
    chance = rng.random()
    one = flagged(rng) if chance < 0.5 else drawn.dense_plan(rng) if chance < 0.8 else drawn.sound_plan(rng)
    other = changed(rng, one) if rng.random() < 0.7 else drawn.dense_plan(rng)
    sheets = sorted({sheet for plan in (one, other) for step in plan for sheet in (*step[2], step[3])} | {"n"})
    return one, other, tuple(sheet for sheet in sheets if rng.random() < 0.3), rng.choice(ALL_HABITS)


CASES = drawn.draws(220, 400, case)


class Habits(unittest.TestCase):
    def test_is_habits(self):
        for good in ((), (("a", "copy"),), (("a", "even"), ("b", "copy"), ("c", "copy"))):
            self.assertIs(is_habits(good), True)
        for bad in ((("a", "odd"),), (("b", "copy"), ("a", "copy")), (("a", "copy"), ("a", "copy")), (("a", "copy"), ("a", "even")), [("a", "copy")],
                    (["a", "copy"],), (("a", "copy", "b"),), (("a",),), (("A", "copy"),), (("a", "Copy"),), ("a", "copy"), (("copy", "a"),), "ab",
                    (("a", "even "),), (("a", ""),)):
            self.assertIs(is_habits(bad), False, bad)
        for thing in [*PLAIN, *spoiled((("a", "copy"), ("b", "even")))]:
            self.assertIs(is_habits(thing), repr(thing) == "()", thing)
        self.assertIs(is_habits(tuple((one + other, "even") for one in "abcdefgh" for other in "abcdefgh")), True)


class Alike(unittest.TestCase):
    def test_tell_alike_and_apart_at(self):
        yes = no = 0
        for one, other, goals, habits in CASES:
            found = apart(one, other, goals, habits)
            self.assertIs(tell_alike(one, other, goals, habits), not found)
            self.assertEqual(apart_at(one, other, goals, habits), min(found, default=None))
            self.assertEqual(apart_at(other, one, goals, habits), min(found, default=None))
            yes, no = yes + (not found and bool(goals)), no + (len(found) > 1)
        self.assertGreater(min(yes, no), 60)

    def test_against_numbers(self):
        """PLANS that tell goals alike do so for METHODS that keep the HABITS, drawn freely otherwise."""
        rng, checked, unlike = random.Random(221), 0, 0
        for one, other, goals, habits in CASES:
            words = dict(habits)
            for _ in range(4):
                tables, held = {}, {sheet: rng.randrange(3) for sheet in "abcdefghnxyz"}

                def told(method, ins):
                    if words.get(method) == "copy" and len(ins) == 1:
                        return ins[0]
                    ins = tuple(sorted(ins)) if words.get(method) == "even" else ins
                    return tables.setdefault((method, ins), rng.randrange(3))

                def number(plan, variant, sheet):
                    for _, method, reads, own, _ in looks.working(plan, variant):
                        if own == sheet:
                            return told(method, tuple(number(plan, variant, read) for read in reads))
                    return held.setdefault(sheet, rng.randrange(3))

                for variant in all_variants(one, other):
                    for sheet in goals:
                        same = number(one, variant, sheet) == number(other, variant, sheet)
                        if term(one, variant, sheet, habits) == term(other, variant, sheet, habits):
                            self.assertTrue(same)
                            checked += 1
                        unlike += not same
        self.assertGreater(min(checked, unlike), 300)

    def test_copy(self):
        def plan(*reads):
            return (("p", "f", reads, "x", ()),)
        copy = (("f", "copy"),)
        chain = (("p", "f", ("a",), "y", ()), ("q", "f", ("y",), "x", ()))
        self.assertIs(tell_alike(plan("a"), chain, ("x",), copy), True)
        self.assertIs(tell_alike(plan("a"), chain, ("x",), ()), False)
        self.assertIs(tell_alike(plan("a", "a"), plan("a"), ("x",), copy), False)
        self.assertIs(tell_alike(plan("a", "b"), plan("b", "a"), ("x",), copy), False)
        self.assertIs(tell_alike(plan(), (("p", "g", (), "x", ()),), ("x",), (("f", "copy"), ("g", "copy"))), False)
        self.assertIs(tell_alike(plan("a"), (("p", "g", ("a",), "x", ()),), ("x",), (("f", "copy"), ("g", "copy"))), True)
        # A copy of a SHEET by its own name is what nobody makes.
        self.assertEqual(apart_at(plan("a"), (), ("x",), copy), ((), "x"))
        self.assertIs(tell_alike((("p", "f", ("a",), "x", ()), ("q", "g", ("x",), "y", ())), (("q", "g", ("a",), "y", ()),), ("y",), copy), True)

    def test_even(self):
        def plan(*reads):
            return (("p", "f", reads, "x", ()),)
        even = (("f", "even"),)
        self.assertIs(tell_alike(plan("a", "b", "a"), plan("a", "a", "b"), ("x",), even), True)
        self.assertIs(tell_alike(plan("a", "b", "a"), plan("b", "a", "b"), ("x",), even), False)
        self.assertIs(tell_alike(plan("a", "b"), plan("b", "a"), ("x",), ()), False)
        self.assertIs(tell_alike(plan("a", "b"), plan("a", "b", "b"), ("x",), even), False)
        self.assertIs(tell_alike(plan("a"), plan("a"), ("x",), even), True)
        deep = (("p", "f", ("a", "b"), "y", ()), ("q", "f", ("y", "c"), "x", ()))
        turned = (("p", "f", ("b", "a"), "y", ()), ("q", "f", ("c", "y"), "x", ()))
        self.assertIs(tell_alike(deep, turned, ("x", "y"), even), True)
        self.assertIs(tell_alike(deep, (("p", "f", ("b", "c"), "y", ()), ("q", "f", ("a", "y"), "x", ())), ("x",), even), False)

    def test_both_beside_each_other(self):
        one = (("p", "c", ("a",), "y", ()), ("q", "e", ("y", "b"), "x", ()))
        other = (("q", "e", ("b", "a"), "x", ()),)
        self.assertIs(tell_alike(one, other, ("x",), (("c", "copy"), ("e", "even"))), True)
        self.assertIs(tell_alike(one, other, ("x",), (("c", "copy"),)), False)
        self.assertIs(tell_alike(one, other, ("x",), (("e", "even"),)), False)
        self.assertIs(tell_alike(one, other, ("x",), (("c", "even"), ("e", "copy"))), False)
        self.assertIs(tell_alike(EVEN, FLAT, ("page",), (("put", "copy"), ("sum", "even"), ("zoo", "copy"))), True)

    def test_goals(self):
        self.assertIs(tell_alike(EVEN, FLAT, (), ()), True)
        self.assertIs(tell_alike(EVEN, FLAT, ("in", "none", "old"), ()), True)
        self.assertEqual(apart_at(EVEN, FLAT, ("out",), (("put", "copy"), ("sum", "even"))), ((), "out"))
        self.assertEqual(apart_at(EVEN, (), ("in", "out", "page"), ()), ((), "out"))

    def test_variants_of_the_flags_of_both(self):
        one = (("p", "f", ("a",), "x", (("u", 1),)), ("q", "g", ("a",), "x", (("u", 0),)))
        other = (("p", "f", ("a",), "x", (("v", 1),)), ("q", "g", ("a",), "x", (("v", 0),)))
        self.assertEqual(apart_at(one, other, ("x",), ()), (("u",), "x"))
        self.assertEqual(apart_at((("p", "f", ("a",), "x", (("u", 1), ("v", 1))),), (("p", "f", ("a",), "x", (("u", 1), ("w", 0))),), ("x",), ()),
                         (("u",), "x"))
        self.assertEqual(apart_at((("p", "f", ("a",), "x", (("u", 1), ("v", 1))),), (), ("x",), ()), (("u", "v"), "x"))
        self.assertIs(tell_alike((("p", "f", ("a",), "x", ()),), (("p", "f", ("a",), "x", (("v", 0),)), ("q", "f", ("a",), "x", (("v", 1),))), ("x",), ()),
                      True)


class Least(unittest.TestCase):
    def good(self, plan, variant, goals, thing):
        """The test's own look at a least PLAN."""
        if not is_plan(thing) or any(step[4] for step in thing) or not looks.sound(thing):
            return False
        return len(thing) == steps_for(plan, variant, goals) and all(
            term(plan, variant, sheet, ()) == term(thing, variant, sheet, ()) for sheet in goals)

    def test_least_plans(self):
        fewer = 0
        for one, other, goals, _ in CASES:
            for variant in [*looks.subsets(looks.flags(one)), ("z",)]:
                plan = least_plan(one, variant, goals)
                self.assertEqual(least_steps(one, variant, goals), steps_for(one, variant, goals))
                self.assertTrue(self.good(one, variant, goals, plan), (one, variant, goals, plan))
                self.assertIs(is_least_plan(one, variant, goals, plan), True)
                self.assertEqual(least_plan(one, variant, goals), plan)
                names = "xyzabcdefgh"
                renamed = tuple(sorted((names[at], *step[1:]) for at, step in enumerate(plan)))
                self.assertIs(is_least_plan(one, variant, goals, renamed), True)
                for thing in (other, other[:len(plan)], (*plan[:-1], *other[-1:]), plan[1:], one):
                    self.assertIs(is_least_plan(one, variant, goals, thing), self.good(one, variant, goals, thing))
                fewer += len(plan) < len([step for step in looks.working(one, variant) if step[0] in needed_some(one, goals)])
        self.assertGreater(fewer, 15)

    def test_no_plan_has_fewer(self):
        """All PLANS of fewer STEPS of the METHODS there are, over the SHEETS there are and one more."""
        checked = 0
        for one, _, goals, _ in CASES:
            many = least_steps(one, (), goals)
            steps = looks.working(one, ())
            kinds = sorted({(step[1], len(step[2])) for step in steps})
            sheets = sorted({sheet for step in steps for sheet in (*step[2], step[3])} | {"w"})
            rows = [("p", method, reads, sheet, ()) for method, length in kinds for reads in product(sheets, repeat=length) for sheet in sheets]
            if many == 0 or many > 3 or len(rows) ** (many - 1) > 3000:
                continue
            checked += 1
            for less in range(many):
                for some in combinations(rows, less):
                    plan = tuple((name, *step[1:]) for name, step in zip("pqr", some))
                    if looks.sound(plan):
                        self.assertTrue(any(term(one, (), sheet, ()) != term(plan, (), sheet, ()) for sheet in goals))
        self.assertGreater(checked, 20)

    def test_the_guarantee(self):
        for one, other, goals, _ in CASES:
            for variant in all_variants(one, other):
                if all(term(one, variant, sheet, ()) == term(other, variant, sheet, ()) for sheet in goals):
                    self.assertGreaterEqual(len(looks.working(other, variant)), least_steps(one, variant, goals))

    def test_goals_of_one_class_and_goals_that_nobody_makes(self):
        self.assertEqual(least_steps(TWICE, (), ("f", "g", "h", "k")), 4)
        self.assertEqual(least_steps(TWICE, (), ("in", "none")), 0)
        self.assertEqual(least_plan(TWICE, (), ("in", "none")), ())
        self.assertEqual(least_steps(TWICE, (), ("in", "k")), 2)
        self.assertEqual(least_steps(TWICE, (), ()), 0)
        flagged_plan = (("p", "f", ("a",), "x", (("u", 1),)), ("q", "f", ("x",), "y", ()))
        self.assertEqual([least_steps(flagged_plan, variant, ("x", "y")) for variant in ((), ("u",))], [1, 2])
        self.assertEqual([least_steps(flagged_plan, variant, ("x",)) for variant in ((), ("u",))], [0, 1])
        self.assertEqual(least_plan(flagged_plan, (), ("x", "y")), (("q", "f", ("x",), "y", ()),))
        # Without u y is made of x, with it a twin of x is made of a.
        twin = (("p", "f", ("a",), "x", ()), ("q", "f", ("a",), "y", (("u", 1),)), ("r", "g", ("y",), "z", ()))
        self.assertEqual([least_steps(twin, variant, ("x", "z")) for variant in ((), ("u",))], [2, 2])
        self.assertIs(is_least_plan(twin, ("u",), ("x", "z"), (("p", "f", ("a",), "x", ()), ("r", "g", ("x",), "z", ()))), True)
        self.assertIs(is_least_plan(twin, (), ("x", "z"), (("p", "f", ("a",), "x", ()), ("r", "g", ("x",), "z", ()))), False)

    def test_things(self):
        good = (("x", "m", ("in",), "y", ()), ("z", "n", ("y", "y"), "h", ()))
        self.assertIs(is_least_plan(TWICE, (), ("h",), good), True)
        for bad in (good[::-1], list(good), good[:1], (*good, ("zz", "m", (), "o", ())), (("x", "m", ("in",), "y", (("u", 0),)), good[1]),
                    (("x", "m", ("old",), "y", ()), good[1]), (good[0], ("z", "n", ("y", "in"), "h", ())), (good[0], ("z", "n", ("y", "y"), "k", ())),
                    (("x", "m", ("in",), "h", ()), ("z", "n", ("h", "h"), "h", ())), (("x", "m", ("y",), "y", ()), good[1]),
                    (("x", "n", ("y", "y"), "h", ()), ("z", "n", ("y", "y"), "h", ()))):
            self.assertIs(is_least_plan(TWICE, (), ("h",), bad), False, bad)
        for thing in [*PLAIN, *spoiled(good)]:
            self.assertIs(is_least_plan(TWICE, (), ("h",), thing), False)
            self.assertIs(is_least_plan(TWICE, (), (), thing), repr(thing) == "()")
        chain = tuple(("s" + one + other, "m", (one,), other, ()) for one in "abcdefgh" for other in "abcdefgh")
        self.assertIs(is_least_plan(TWICE, (), ("h",), chain), False)


class Fused(unittest.TestCase):
    def look(self, plan, name, second):
        """The test's own fusing."""
        sheets = {step[0]: step[3] for step in plan}
        return tuple((own, method, tuple(sheets[name] if read == sheets[second] else read for read in reads), sheet, condition)
                     for own, method, reads, sheet, condition in plan if own != second)

    def test_fused(self):
        yes = 0
        for one, _, goals, habits in CASES:
            names = [step[0] for step in one]
            pairs = []
            for name, second in product(names, names):
                plan = self.look(one, name, second)
                self.assertEqual(fused(one, name, second), plan)
                expected = name != second and looks.sound(plan) and not apart(one, plan, goals, habits)
                self.assertIs(can_fuse(one, name, second, goals, habits), expected)
                pairs.extend([(name, second)] if expected else [])
            self.assertEqual(fusable(one, goals, habits), pairs)
            yes += len(pairs)
        self.assertGreater(yes, 100)

    def test_by_hand(self):
        self.assertEqual(fused(TWICE, "a", "a"), TWICE[1:])
        self.assertIs(can_fuse(TWICE, "a", "a", (), ()), False)
        # c feeds d: behind it d reads what it makes.
        row = (("c", "m", ("in",), "f", ()), ("d", "m", ("f",), "g", ()), ("e", "m", ("g",), "h", ()))
        self.assertEqual(fused(row, "e", "c"), (("d", "m", ("h",), "g", ()), row[2]))
        self.assertIs(is_sound(fused(row, "e", "c")), False)
        self.assertIs(can_fuse(row, "e", "c", (), ()), False)
        self.assertIs(can_fuse(row, "c", "e", (), ()), True)
        self.assertIs(can_fuse(row, "c", "d", ("h",), ()), False)
        self.assertIs(can_fuse(row, "c", "d", ("h",), (("m", "copy"),)), True)
        self.assertIs(can_fuse(TWICE, "a", "b", ("g",), ()), False)
        self.assertEqual(fusable(TWICE, ("f", "g", "h", "k"), ()), [])
        self.assertEqual(fusable((), (), ()), [])

    def test_a_sheet_with_several_makers(self):
        # Where u is off f is what stands there ahead, and g is not.
        plan = (("p", "m", ("in",), "f", (("u", 1),)), ("q", "m", ("in",), "g", ()), ("r", "n", ("g",), "h", ()))
        self.assertIs(can_fuse(plan, "p", "q", ("h",), ()), False)
        self.assertIs(can_fuse(plan, "q", "p", ("h",), ()), True)
        self.assertIs(can_fuse((*plan[:1], ("pp", "m", ("in",), "f", (("u", 0),)), *plan[1:]), "p", "q", ("h",), ()), True)


class Flags(unittest.TestCase):
    def test_without_flag_and_idle_flags(self):
        some = 0
        for one, _, goals, habits in CASES:
            pairs = []
            for step in one:
                for flag in ("u", "v", "w"):
                    plan = tuple((*own[:4], tuple(pair for pair in own[4] if pair[0] != flag)) if own == step else own for own in one)
                    self.assertEqual(without_flag(one, step[0], flag), plan)
                    if flag in dict(step[4]) and looks.sound(plan) and not apart(one, plan, goals, habits):
                        pairs.append((step[0], flag))
            self.assertEqual(idle_flags(one, goals, habits), tuple(pairs))
            some += len(pairs)
        self.assertGreater(some, 100)

    def test_by_hand(self):
        self.assertEqual(without_flag(EVEN, "quick", "fast"), (EVEN[0], (*EVEN[1][:4], ()), EVEN[2]))
        self.assertEqual(without_flag(EVEN, "quick", "slow"), EVEN)
        self.assertEqual(idle_flags(EVEN, (), (("sum", "even"),)), ())
        lone = (("p", "f", ("a",), "x", (("u", 1), ("v", 0))), ("q", "g", ("b",), "y", ()))
        self.assertEqual(idle_flags(lone, ("y",), ()), (("p", "u"), ("p", "v")))
        self.assertEqual(idle_flags(lone, ("x",), ()), ())
        self.assertEqual(idle_flags(lone, (), ()), (("p", "u"), ("p", "v")))
        # Both makers are even: but then two of them would run.
        self.assertIs(tell_alike(EVEN, (("draft", "sum", ("in", "old"), "out", ()), EVEN[2]), ("page",), (("sum", "even"),)), True)

    def test_slimmed(self):
        gone = 0
        for one, _, goals, habits in CASES:
            plan = slimmed(one, goals)
            self.assertEqual(plan, tuple(step for step in one if step[0] in needed_some(one, goals)))
            self.assertEqual(apart(one, plan, goals, ()), [])
            self.assertIs(tell_alike(one, plan, goals, habits), True)
            gone += len(one) - len(plan)
        self.assertGreater(gone, 300)
        self.assertEqual(slimmed(EVEN, ()), ())
        self.assertEqual(slimmed(EVEN, ("in", "none")), ())
        self.assertEqual(slimmed(EVEN, ("out",)), EVEN[:2])
        dead = (("p", "f", ("a",), "x", (("u", 1),)), ("q", "f", ("x",), "y", (("u", 0),)))
        self.assertEqual(slimmed(dead, ("y",)), dead[1:])

    def test_parted(self):
        for one, _, goals, habits in CASES:
            for step in one:
                name, method, reads, sheet, condition = step
                plan = parted(one, name, "w", "new")
                off, on = [tuple(sorted([*condition, ("w", told)])) for told in (0, 1)]
                expected = [own for own in one if own != step] + [(name, method, reads, sheet, off), ("new", method, reads, sheet, on)]
                self.assertEqual(plan, tuple(sorted(expected)))
                self.assertTrue(looks.sound(plan))
                self.assertIs(tell_alike(one, plan, looks_sheets(one), habits), True)
        self.assertEqual(parted(FLAT, "draft", "a", "b"), (("b", "sum", ("in", "old"), "page", (("a", 1),)), ("draft", "sum", ("in", "old"), "page", (("a", 0),))))
        self.assertEqual(parted(EVEN, "draft", "a", "z")[0][4], (("a", 0), ("fast", 0)))


def looks_sheets(plan):
    return tuple(sorted({sheet for step in plan for sheet in (*step[2], step[3])}))


class Errors(unittest.TestCase):
    def first(self, kind, name, function, *arguments):
        with self.assertRaises(kind) as caught:
            function(TWICE, *arguments)
        self.assertEqual(caught.exception.name, name)

    def test_which_one_comes_first(self):
        for function, more in ((fused, ()), (can_fuse, ((), ()))):
            self.first(NoStep, "x", function, "x", "y", *more)
            self.first(NoStep, "x", function, "x", "a", *more)
            self.first(NoStep, "x", function, "x", "x", *more)
            self.first(NoStep, "y", function, "a", "y", *more)
        self.first(NoStep, "x", without_flag, "x", "u")
        self.first(NoStep, "x", parted, "x", "u", "a")
        self.first(Twice, "a", parted, "a", "u", "a")
        self.first(Twice, "b", parted, "a", "u", "b")
        self.assertTrue(issubclass(Twice, ValueError) and issubclass(NoStep, LookupError))


if __name__ == "__main__":
    unittest.main()
