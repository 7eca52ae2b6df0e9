"""runs.py: COUNTS, RUNS, SPOTS, SEEN pairs."""

import unittest

from reportalike.errors import NoSheet
from reportalike.runs import (
    cleaned, held_sheets, is_counts, is_run, is_runs, is_seen, is_spot, mark_of, new_run, pair_of, spots,
)
from tests import drawn, looks
from tests.things import PLAIN, spoiled

PLAN = (
    ("draft", "sum", ("in", "old"), "out", (("fast", 0),)),
    ("quick", "guess", ("in",), "out", (("fast", 1),)),
    ("tell", "sum", ("out", "out"), "page", ()),
)
RUN = (PLAN, (), (("in", "m"), ("old", "n"), ("page", "k"), ("zoo", "m")))
FAST = (PLAN, ("fast", "more"), (("in", "m"),))
DRAWN = drawn.draws(7, 80, drawn.run)


class Judges(unittest.TestCase):
    def test_counts(self):
        many = tuple((one + two, "m") for one in "abcdefghij" for two in "abcdefghij")
        for good in ((), (("a", "a"),), (("a", "z"), ("b", "a")), many):
            self.assertIs(is_counts(good), True)
        for bad in ((("b", "m"), ("a", "m")), (("a", "m"), ("a", "m")), (("a", "m"), ("a", "n")), ("a", "m"), (("a",),),
                    (("a", "m", "n"),), many[::-1], ("ab",), ("ab", "cd")):
            self.assertIs(is_counts(bad), False)
        for bad in spoiled((("a", "m"), ("b", "n"))):
            self.assertIs(is_counts(bad), False, bad)

    def test_run(self):
        loop = (("a", "m", ("f",), "f", (("x", 0),)),)
        twice = (("a", "m", (), "f", ()), ("b", "n", (), "f", (("x", 1),)))
        for good in (RUN, FAST, ((), (), ()), ((), tuple("abcdefghijkl"), (("a", "m"),))):
            self.assertIs(is_run(good), True)
        for bad in ((PLAN, (), (("in", "m"),)), (PLAN, (), (("old", "m"),)), (PLAN[::-1], (), RUN[2]), (PLAN, (), RUN[2][::-1]),
                    (PLAN, ("more", "fast"), FAST[2]), (PLAN, ("fast", "fast"), FAST[2]), (*RUN, ()), RUN[:2],
                    (loop, ("x",), ()), (loop, (), (("f", "m"),)), (twice, (), ()), (PLAN, "fast", FAST[2])):
            self.assertIs(is_run(bad), False, bad)
        for bad in spoiled(FAST):
            self.assertIs(is_run(bad), False, bad)

    def test_great_run(self):
        letters = "abcdefghijklmnopqrst"
        plan = tuple((one, "m", ("in", "s" + one), "t" + one, (("f" + one, 1),)) for one in letters)
        counts = tuple(sorted((("in", "m"), *[("s" + one, "n") for one in letters])))
        flags = tuple("f" + one for one in letters)
        self.assertIs(is_run((plan, flags, counts)), True)
        self.assertIs(is_run((plan, flags, counts[:-1])), False)
        self.assertIs(is_run((plan, flags[:-1], counts[:-1])), True)

    def test_runs(self):
        self.assertIs(is_runs((RUN,)), True)
        self.assertIs(is_runs((RUN, FAST, ((), (), ())) * 5), True)
        for bad in ((), RUN, (RUN, ()), (RUN, RUN[:2]), ((RUN, FAST),), *spoiled((FAST,))):
            self.assertIs(is_runs(bad), False, bad)

    def test_spot(self):
        runs = (RUN, FAST)
        right = looks.spots(runs)
        self.assertEqual(len(right), 8)
        for place in (-2, -1, 0, 1, 2, 10 ** 40):
            for sheet in ("in", "old", "out", "page", "zoo", "none", "draft"):
                self.assertIs(is_spot(runs, (place, sheet)), (place, sheet) in right)
        for bad in spoiled((1, "in")) + spoiled((0, "in")) + list(PLAIN) + [(0, "in", "in"), (0,), ("in", 0)]:
            self.assertIs(is_spot(runs, bad), False, bad)

    def test_seen(self):
        runs = (RUN, FAST)
        a, b, c = (0, "in"), (0, "out"), (1, "in")
        for good in ((), ((a, b),), ((a, b), (a, c), (b, c))):
            self.assertIs(is_seen(runs, good), True)
        for bad in (((b, a),), ((a, a),), ((a, c), (a, b)), ((a, b), (a, b)), (a, b), ((a, b, c),), ((a,),), ((a, (1, "old")),),
                    ((a, (2, "in")),), (((-1, "in"), a),), ((a, b), (a, (True, "in")))):
            self.assertIs(is_seen(runs, bad), False, bad)
        for bad in spoiled(((a, b), (b, c))):
            self.assertIs(is_seen(runs, bad), False, bad)
        row = looks.spots(runs)
        self.assertIs(is_seen(runs, tuple((one, other) for at, one in enumerate(row) for other in row[at + 1:])), True)

    def test_plain_things(self):
        good = {is_counts: [(), (("a", "a"),)], is_run: [], is_runs: []}
        for judge, right in good.items():
            for thing in PLAIN:
                expected = any(repr(thing) == repr(one) for one in right)
                expected = expected or (judge is is_run and thing == ((), (), ()) and repr(thing) == "((), (), ())")
                self.assertIs(judge(thing), expected, (judge, thing))


class Runs(unittest.TestCase):
    def test_new_run(self):
        self.assertEqual(new_run(*RUN), RUN)
        self.assertEqual(new_run((), ("a",), (("b", "m"),)), ((), ("a",), (("b", "m"),)))
        for plan, variant, counts, sheet in (
                (PLAN, (), (), "in"), (PLAN, (), (("in", "m"),), "old"), (PLAN, (), (("old", "m"),), "in"),
                (PLAN, ("fast",), (("old", "m"), ("out", "m")), "in"),
                ((("a", "m", ("z", "b", "y"), "x", ()),), (), (("a", "m"),), "b")):
            with self.assertRaises(NoSheet) as caught:
                new_run(plan, variant, counts)
            self.assertEqual(caught.exception.sheet, sheet)

    def test_drawn(self):
        for run in DRAWN:
            self.assertIs(is_run(run), True)
            self.assertEqual(held_sheets(run), tuple(looks.held_sheets(run)))
            for missing in looks.needed(run[0], run[1]):
                counts = tuple(pair for pair in run[2] if pair[0] != missing)
                self.assertIs(is_run((run[0], run[1], counts)), False)
                with self.assertRaises(NoSheet) as caught:
                    new_run(run[0], run[1], counts)
                self.assertEqual(caught.exception.sheet, missing)

    def test_mark_of(self):
        self.assertEqual([mark_of(RUN, sheet) for sheet in ("in", "old", "out", "page", "zoo", "none")],
                         ["m", "n", None, "k", "m", None])

    def test_cleaned(self):
        self.assertEqual(cleaned(RUN), ((PLAN[0], PLAN[2]), (), (("in", "m"), ("old", "n"))))
        self.assertEqual(cleaned(FAST), (PLAN[1:], ("fast", "more"), (("in", "m"),)))
        for run in DRAWN:
            plan, variant, counts = cleaned(run)
            self.assertEqual(plan, tuple(looks.working(run[0], run[1])))
            self.assertEqual(variant, run[1])
            self.assertEqual(counts, tuple(pair for pair in run[2] if pair[0] in looks.needed(run[0], run[1])))
            self.assertIs(is_run((plan, variant, counts)), True)
            for step in plan:
                self.assertEqual(looks.term((plan, variant, counts), step[3]), looks.term(run, step[3]))

    def test_spots(self):
        self.assertEqual(spots((FAST, RUN)), (
            (0, "in"), (0, "out"), (0, "page"), (1, "in"), (1, "old"), (1, "out"), (1, "page"), (1, "zoo")))
        self.assertEqual(spots((((), (), ()),)), ())
        for runs in drawn.draws(8, 30, drawn.runs):
            self.assertEqual(spots(runs), tuple(looks.spots(runs)))

    def test_pair_of(self):
        self.assertEqual(pair_of((0, "b"), (0, "a")), ((0, "a"), (0, "b")))
        self.assertEqual(pair_of((0, "b"), (-3, "z")), ((-3, "z"), (0, "b")))
        self.assertEqual(pair_of((10, "a"), (9, "z")), ((9, "z"), (10, "a")))
        self.assertEqual(pair_of((2, "a"), (2, "a")), ((2, "a"), (2, "a")))
