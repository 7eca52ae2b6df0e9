"""steps.py: CONDITIONS, STEPS, PLANS."""

import unittest

from reportalike.errors import NoStep, Twice
from reportalike.steps import (
    counts_needed, flags_in, holds, is_condition, is_plan, is_step, made_at, maker, methods_in, renamed_sheets,
    running, sheets_in, step_of, variants_of, with_step, without_step,
)
from tests import drawn, looks
from tests.things import PLAIN, spoiled

STEP = ("abcdefgh", "z", ("a", "b", "a"), "c", (("u", 1), ("v", 0)))
PLAN = (
    ("draft", "sum", ("in", "old"), "out", (("fast", 0),)),
    ("quick", "guess", ("in",), "out", (("fast", 1), ("slow", 0))),
    ("tell", "sum", ("out", "out", "in"), "page", ()),
    ("wait", "nap", (), "old", (("slow", 1),)),
)
DRAWN = drawn.draws(4, 60, drawn.plan)


class Judges(unittest.TestCase):
    def test_condition(self):
        for good in ((), (("a", 1),), (("a", 0), ("b", 1)), tuple((letter, 1) for letter in "abcdefghijklmnop")):
            self.assertIs(is_condition(good), True)
        for bad in ((("b", 1), ("a", 0)), (("a", 0), ("a", 1)), (("a", 1), ("a", 1)), (("a", 2),), (("a", -1),),
                    (("a",),), (("a", 1, 1),), ("a", 1), (("a", 1), ()), (("a", 1), ["b", 1])):
            self.assertIs(is_condition(bad), False)
        for bad in spoiled((("a", 1), ("b", 0))):
            self.assertIs(is_condition(bad), False, bad)

    def test_step(self):
        for good in (STEP, ("a", "a", (), "a", ()), ("a", "b", ("c",), "c", ()), ("a", "b", ("x",) * 40, "c", ())):
            self.assertIs(is_step(good), True)
        self.assertIs(is_step(("a", "b", (), "c", tuple((one + two, 0) for one in "abcde" for two in "abcd"))), True)
        for bad in (STEP[:4], (*STEP, ()), STEP[::-1], ("a", "b", "c", "d", ()), ("a", "b", (), "c", (("b", 1), ("a", 1)))):
            self.assertIs(is_step(bad), False)
        for bad in spoiled(STEP):
            self.assertIs(is_step(bad), False, bad)

    def test_plan(self):
        for good in ((), (STEP,), PLAN):
            self.assertIs(is_plan(good), True)
        many = tuple((one + two, "m", ("s",) * 5, "s", ()) for one in "abcdefghij" for two in "abcdefghij")
        self.assertIs(is_plan(many), True)
        for bad in (PLAN[::-1], (PLAN[0], PLAN[0]), (*PLAN, PLAN[0]), STEP, (PLAN,), (PLAN[0], (*PLAN[1], 0)), many[::-1]):
            self.assertIs(is_plan(bad), False)
        again = (("a", "m", (), "s", ()), ("a", "n", (), "t", ()))
        self.assertIs(is_plan(again), False)
        for bad in spoiled(PLAN):
            self.assertIs(is_plan(bad), False, bad)

    def test_plain_things(self):
        good = {is_condition: [(), (("seen", 0),)], is_step: [("a", "m", (), "b", ())], is_plan: [(), (("a", "m", (), "b", ()),)]}
        for judge, right in good.items():
            for thing in PLAIN:
                expected = any(repr(thing) == repr(one) for one in right)
                self.assertIs(judge(thing), expected, (judge, thing))


class Looks(unittest.TestCase):
    def test_holds(self):
        for condition in ((), (("u", 1),), (("u", 0),), (("u", 1), ("v", 0)), (("u", 0), ("v", 1), ("w", 1))):
            for variant in looks.subsets("uvwx"):
                expected = all((flag in variant) == bool(told) for flag, told in condition)
                self.assertIs(holds(condition, variant), expected)

    def test_running(self):
        self.assertEqual(running(PLAN, ("slow",)), (PLAN[0], PLAN[2], PLAN[3]))
        self.assertEqual(running(PLAN, ("fast", "slow")), (PLAN[2], PLAN[3]))
        self.assertEqual(running((), ("fast",)), ())
        for plan in DRAWN:
            for variant in looks.subsets("uvw"):
                self.assertEqual(running(plan, variant), tuple(looks.working(plan, variant)))

    def test_step_of(self):
        for step in PLAN:
            self.assertEqual(step_of(PLAN, step[0]), step)
        for plan, name in ((PLAN, "sum"), (PLAN, "out"), ((), "a")):
            with self.assertRaises(NoStep) as caught:
                step_of(plan, name)
            self.assertEqual(caught.exception.name, name)

    def test_sets(self):
        self.assertEqual(flags_in(PLAN), ("fast", "slow"))
        self.assertEqual(methods_in(PLAN), ("guess", "nap", "sum"))
        self.assertEqual(sheets_in(PLAN), ("in", "old", "out", "page"))
        self.assertEqual((flags_in(()), methods_in(()), sheets_in(()), variants_of(())), ((), (), (), [()]))
        for plan in DRAWN:
            self.assertEqual(flags_in(plan), looks.flags(plan))
            self.assertEqual(methods_in(plan), tuple(sorted({step[1] for step in plan})))
            self.assertEqual(sheets_in(plan), tuple(sorted({one for step in plan for one in (*step[2], step[3])})))
            self.assertEqual(variants_of(plan), looks.subsets(looks.flags(plan)))

    def test_variants_are_ascending(self):
        plan = (("a", "m", (), "s", (("u", 1), ("v", 0), ("w", 1))),)
        self.assertEqual(variants_of(plan), [
            (), ("u",), ("u", "v"), ("u", "v", "w"), ("u", "w"), ("v",), ("v", "w"), ("w",)])

    def test_made_and_needed(self):
        self.assertEqual(made_at(PLAN, ("slow",)), ("old", "out", "page"))
        self.assertEqual(counts_needed(PLAN, ("slow",)), ("in",))
        self.assertEqual(counts_needed(PLAN, ("fast", "slow")), ("in", "out"))
        own = (("a", "m", ("s", "t"), "s", ()), ("b", "m", ("s",), "s", ()))
        self.assertEqual((made_at(own, ()), counts_needed(own, ())), (("s",), ("t",)))
        for plan in DRAWN:
            for variant in looks.subsets("uv"):
                self.assertEqual(made_at(plan, variant), tuple(sorted({s[3] for s in looks.working(plan, variant)})))
                self.assertEqual(counts_needed(plan, variant), looks.needed(plan, variant))

    def test_maker(self):
        twice = (("a", "m", (), "s", (("u", 1),)), ("b", "m", (), "s", ()), ("c", "m", (), "s", ()))
        self.assertEqual(maker(twice, (), "s"), twice[1])
        self.assertEqual(maker(twice, ("u",), "s"), twice[0])
        self.assertIsNone(maker(twice, (), "m"))
        self.assertIsNone(maker(PLAN, ("fast", "slow"), "out"))


class Changes(unittest.TestCase):
    def test_with_step(self):
        for at, step in enumerate(PLAN):
            self.assertEqual(with_step(PLAN[:at] + PLAN[at + 1:], step), PLAN)
        self.assertEqual(with_step((), STEP), (STEP,))
        other = ("quick", "other", (), "none", ())
        with self.assertRaises(Twice) as caught:
            with_step(PLAN, other)
        self.assertEqual(caught.exception.name, "quick")

    def test_without_step(self):
        for at, step in enumerate(PLAN):
            self.assertEqual(without_step(PLAN, step[0]), PLAN[:at] + PLAN[at + 1:])
        with self.assertRaises(NoStep) as caught:
            without_step(PLAN, "page")
        self.assertEqual(caught.exception.name, "page")

    def test_renamed_sheets(self):
        swapped = renamed_sheets(PLAN, (("in", "out"), ("out", "in")))
        self.assertEqual([step[2] for step in swapped], [("out", "old"), ("out",), ("in", "in", "out"), ()])
        self.assertEqual([step[3] for step in swapped], ["in", "in", "page", "old"])
        self.assertEqual([step[:2] + step[4:] for step in swapped], [step[:2] + step[4:] for step in PLAN])
        self.assertEqual(renamed_sheets(swapped, (("out", "in"), ("in", "out"))), PLAN)
        chain = renamed_sheets(PLAN, (("old", "in"), ("in", "page"), ("page", "new")))
        self.assertEqual([step[2:4] for step in chain], [
            (("page", "in"), "out"), (("page",), "out"), (("out", "out", "page"), "new"), ((), "in")])

    def test_renamed_names_that_are_no_sheets(self):
        self.assertEqual(renamed_sheets(PLAN, (("sum", "x"), ("fast", "y"), ("draft", "z"), ("none", "w"))), PLAN)
        self.assertEqual(renamed_sheets(PLAN, ()), PLAN)
        self.assertEqual(renamed_sheets((), (("a", "b"),)), ())

    def test_two_sheets_become_one(self):
        one = renamed_sheets(PLAN, (("in", "same"), ("old", "same")))
        self.assertEqual(one[0][2], ("same", "same"))
        self.assertEqual(one[3][3], "same")
