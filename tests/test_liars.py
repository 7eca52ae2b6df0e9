"""liars.py: BRANCHES that may lie, and what is sure all the same."""

import random
import unittest
from itertools import product

from reportalike.errors import NoSpot
from reportalike.free import free_world
from reportalike.liars import (
    can_be, is_other_world, least_liars, lots_that_can_be, other_world, surely_holds, surely_lie,
)
from tests import drawn, looks
from tests.things import PLAIN, spoiled

RUNS = (((("low", "avg", ("north",), "min", ()), ("mean", "avg", ("south",), "mid", ())), (), (("north", "m"), ("south", "n"))),)
NORTH, SOUTH, MID, MIN = [(0, sheet) for sheet in ("north", "south", "mid", "min")]
NAMES = ("east", "home", "west")


def told_by(reports, lot):
    """What the BRANCHES say that are not in the LOT."""
    return [(spot, number) for branch, spot, number in reports if branch not in lot]


def fitted(runs, seen, reports, lot):
    """The test's own look: classes with SPOTS of one number put together, and what is said of each; None if that can't be."""
    pairs = [(one, other) for one, first in told_by(reports, lot) for other, second in told_by(reports, lot) if first == second]
    lead, said = looks.class_of(runs, (*seen, *pairs)), {}
    for spot, number in told_by(reports, lot):
        if said.setdefault(lead[spot], number) != number:
            return None
    return lead, said


def fits(runs, seen, reports, lot, table):
    """Whether a WORLD in which SPOTS hold these numbers fits the LOT."""
    return all(table[one] == table[other] for one, other in seen) and all(table[spot] == number for spot, number in told_by(reports, lot))


def is_other(runs, seen, reports, lots, spot, number, thing):
    """The test's own look at a pair of a LOT and a WORLD."""
    lot, world = thing
    if lot not in lots or not looks.is_world(world):
        return False
    table = looks.numbers(world, runs)
    return fits(runs, seen, reports, lot, table) and table[spot] != number


def case(rng):
    runs = drawn.runs(rng, dense=rng.random() < 0.5, methods=rng.choice(("f", "fg")))
    row = looks.spots(runs)
    if len(row) < 2:
        return case(rng)
    numbers = rng.choice(((0, 1), (5, 6, 7), (-1, 3)))
    reports = {(rng.choice(NAMES), rng.choice(row), rng.choice(numbers)) for _ in range(rng.randint(0, 6))}
    lots = tuple(drawn.some_of(rng, (*NAMES[:2], "none", "west")) for _ in range(rng.randint(0, 3)))
    return runs, drawn.seen(rng, runs, most=2), tuple(sorted(reports)), lots, rng.choice(row), rng.choice(numbers)


CASES = drawn.draws(210, 320, case)
LOTS = looks.subsets(NAMES)


class Lots(unittest.TestCase):
    def test_can_be(self):
        yes = no = 0
        for runs, seen, reports, lots, _, _ in CASES:
            for lot in LOTS:
                expected = fitted(runs, seen, reports, lot) is not None
                self.assertIs(can_be(runs, seen, reports, lot), expected)
                yes, no = yes + expected, no + (not expected)
            self.assertEqual(lots_that_can_be(runs, seen, reports, lots), tuple(sorted({lot for lot in lots if can_be(runs, seen, reports, lot)})))
        self.assertGreater(min(yes, no), 300)

    def test_least_liars_against_all_lots(self):
        several = 0
        for runs, seen, reports, _, _, _ in CASES:
            branches = sorted({branch for branch, _, _ in reports})
            fitting = [lot for lot in looks.subsets(branches) if fitted(runs, seen, reports, lot)]
            expected = [lot for lot in fitting if not any(set(less) < set(lot) for less in fitting)]
            self.assertEqual(least_liars(runs, seen, reports), expected)
            several += len(expected) > 1
        self.assertGreater(several, 30)

    def test_by_hand(self):
        self.assertIs(can_be(RUNS, (), (), ()), True)
        self.assertEqual(least_liars(RUNS, (), ()), [()])
        self.assertEqual(lots_that_can_be(RUNS, (), (), ()), ())
        self.assertEqual(lots_that_can_be(RUNS, (), (), (("b",), (), ("b",), ("a", "b"))), ((), ("a", "b"), ("b",)))
        same = (("east", NORTH, 5), ("home", NORTH, 5), ("west", NORTH, 5))
        self.assertEqual(least_liars(RUNS, (), same), [()])
        self.assertEqual(surely_holds(RUNS, (), same, ((), ("east", "home")), NORTH), 5)
        self.assertIsNone(surely_holds(RUNS, (), same, ((), NAMES), NORTH))

    def test_one_branch_that_says_two_numbers(self):
        of_one_spot = (("east", NORTH, 5), ("east", NORTH, 6))
        self.assertEqual(least_liars(RUNS, (), of_one_spot), [("east",)])
        of_one_class = (("east", NORTH, 5), ("east", SOUTH, 6))
        self.assertEqual(least_liars(RUNS, (), of_one_class), [()])
        self.assertEqual(least_liars(RUNS, ((NORTH, SOUTH),), of_one_class), [("east",)])
        self.assertEqual(surely_lie(RUNS, ((NORTH, SOUTH),), of_one_class, (("east",), ())), ("east",))

    def test_a_class_that_comes_of_others(self):
        reports = (("east", NORTH, 5), ("home", SOUTH, 5), ("west", MID, 7), ("west", MIN, 8))
        self.assertIs(can_be(RUNS, (), reports, ()), False)
        self.assertEqual(least_liars(RUNS, (), reports), [("east",), ("home",), ("west",)])
        late = (RUNS[0], ((("s", "avg", ("min",), "far", ()), ("t", "avg", ("mid",), "off", ())), (), (("mid", "k"), ("min", "o"))))
        more = (*reports[:2], ("west", (1, "far"), 1), ("west", (1, "off"), 2))
        seen = ((MID, (1, "mid")), (MIN, (1, "min")))
        self.assertIs(can_be(late, seen, more, ()), False)
        self.assertIs(can_be(late, seen[1:], more, ()), True)

    def test_branches_that_report_nothing(self):
        reports = (("east", NORTH, 5), ("west", NORTH, 6))
        self.assertIs(can_be(RUNS, (), reports, ("far", "north")), False)
        self.assertIs(can_be(RUNS, (), reports, ("far", "west")), True)
        self.assertEqual(surely_lie(RUNS, (), reports, (("far", "west"), ("far",))), ("west",))
        self.assertEqual(surely_lie(RUNS, (), reports, (("far", "west"), ("east",))), ())
        self.assertEqual(surely_holds(RUNS, (), reports, (("far",), ("far", "west")), NORTH), 5)


class Sure(unittest.TestCase):
    def test_surely_holds_and_surely_lie(self):
        held = lied = 0
        for runs, seen, reports, lots, spot, _ in CASES:
            found = [fitted(runs, seen, reports, lot) for lot in lots]
            numbers = {fit[1].get(fit[0][spot]) for fit in found if fit is not None}
            expected = numbers.pop() if len(numbers) == 1 else None
            self.assertEqual(surely_holds(runs, seen, reports, lots, spot), expected)
            held += expected is not None
            # A BRANCH surely lies if all its REPORTS can't be true beside those of the others that are outside of a LOT.
            fitting = [lot for lot, fit in zip(lots, found) if fit is not None]
            lying = tuple(
                branch for branch in sorted({one for one, _, _ in reports}) if fitting and
                all(fitted(runs, seen, reports, tuple(one for one in lot if one != branch)) is None for lot in fitting))
            self.assertEqual(surely_lie(runs, seen, reports, lots), lying)
            lied += bool(lying)
        self.assertGreater(held, 30)
        self.assertGreater(lied, 30)

    def test_against_worlds_of_three_numbers(self):
        """All plain WORLDS of numbers 0 to 2, with REPORTS of these: what is sure is so in each that fits."""
        checked = apart = 0
        for at, runs in enumerate(drawn.draws(211, 60, lambda rng: drawn.small_runs(rng, most=1))):
            if looks.how_many_plain(runs, 3) > 800:
                continue
            rng, row = random.Random(at), looks.spots(runs)
            tables = [looks.numbers(world, runs) for world in looks.plain_worlds(runs, 3)]
            for _ in range(6):
                seen = drawn.seen(rng, runs, most=1)
                reports = tuple(sorted({(rng.choice(NAMES), rng.choice(row), rng.randrange(3)) for _ in range(rng.randint(1, 5))}))
                lots = tuple(rng.sample(LOTS, rng.randint(1, 3)))
                worlds = [table for table in tables if any(fits(runs, seen, reports, lot, table) for lot in lots)]
                for lot in LOTS:
                    if any(fits(runs, seen, reports, lot, table) for table in tables):
                        self.assertIs(can_be(runs, seen, reports, lot), True)
                lying = surely_lie(runs, seen, reports, lots)
                for table in worlds:
                    for spot in row:
                        number = surely_holds(runs, seen, reports, lots, spot)
                        checked += number is not None
                        self.assertIn(number, (None, table[spot]))
                    false = {branch for branch, spot, number in reports if table[spot] != number}
                    self.assertLessEqual(set(lying), false)
                    apart += bool(false - set(lying))
        self.assertGreater(min(checked, apart), 500)

    def test_no_lot_that_can_be(self):
        reports = (("east", NORTH, 5), ("home", NORTH, 5), ("west", NORTH, 6))
        for lots in ((), ((),), ((), ("east",), ("far",))):
            self.assertEqual(lots_that_can_be(RUNS, (), reports, lots), ())
            self.assertIsNone(surely_holds(RUNS, (), reports, lots, NORTH))
            self.assertEqual(surely_lie(RUNS, (), reports, lots), ())
            self.assertIsNone(other_world(RUNS, (), reports, lots, NORTH, 4))

    def test_what_holds_by_seen_pairs(self):
        reports = (("east", MIN, 4), ("west", SOUTH, 4))
        self.assertEqual(surely_holds(RUNS, ((MIN, SOUTH),), reports, (("east",),), MIN), 4)
        self.assertEqual(surely_holds(RUNS, ((MID, MIN),), reports, (("west",),), MID), 4)
        self.assertIsNone(surely_holds(RUNS, (), reports, (("west",),), MID))
        self.assertEqual(surely_holds(RUNS, ((NORTH, SOUTH),), reports, ((),), MID), 4)
        self.assertEqual(surely_holds(RUNS, ((NORTH, SOUTH),), (("east", MIN, 0),), ((),), MID), 0)

    def test_numbers_that_differ_by_lots(self):
        reports = (("east", NORTH, 5), ("west", NORTH, 6))
        self.assertIsNone(surely_holds(RUNS, (), reports, (("east",), ("west",)), NORTH))
        self.assertEqual(surely_holds(RUNS, (), reports, (("east",), ()), NORTH), 6)
        self.assertEqual(surely_lie(RUNS, (), reports, (("east",), ("west",))), ())
        # Both may lie at once, and then nobody surely lies.
        self.assertEqual(surely_lie(RUNS, (), reports, (("east", "west"),)), ())


class Others(unittest.TestCase):
    def test_other_world(self):
        some = none = 0
        for runs, seen, reports, lots, spot, number in CASES:
            for one in (number, 99):
                found = other_world(runs, seen, reports, lots, spot, one)
                fit = [fitted(runs, seen, reports, lot) for lot in lots]
                if all(here is None or here[1].get(here[0][spot]) == one for here in fit):
                    self.assertIsNone(found)
                    none += 1
                else:
                    self.assertTrue(is_other(runs, seen, reports, lots, spot, one, found))
                    self.assertIs(is_other_world(runs, seen, reports, lots, spot, one, found), True)
                    self.assertEqual(other_world(runs, seen, reports, lots, spot, one), found)
                    some += 1
        self.assertGreater(min(some, none), 100)

    def test_numbers_said_by_some_by_a_liar_alone_by_nobody(self):
        reports = (("east", NORTH, 5), ("west", NORTH, 6))
        lots = (("west",),)
        self.assertIsNone(other_world(RUNS, (), reports, lots, NORTH, 5))
        for spot, number in ((NORTH, 6), (NORTH, 7), (SOUTH, 5), (SOUTH, 0), (MID, 0), (MID, 1), (MIN, 2)):
            found = other_world(RUNS, (), reports, lots, spot, number)
            self.assertTrue(is_other(RUNS, (), reports, lots, spot, number, found), number)
        for number in range(-3, 9):
            found = other_world(RUNS, (), (), ((),), SOUTH, number)
            self.assertTrue(is_other(RUNS, (), (), ((),), SOUTH, number, found), number)
        found = other_world(RUNS, ((NORTH, SOUTH),), (), ((),), MID, 10 ** 40)
        self.assertTrue(is_other(RUNS, ((NORTH, SOUTH),), (), ((),), MID, 10 ** 40, found))

    def test_judge(self):
        reports, lots = (("east", NORTH, 5), ("west", NORTH, 6)), (("east",), ("west",), ("east", "west"))
        world = ((("m", 5), ("n", 1)), (), 0)
        for lot, spot, number, expected in ((("west",), NORTH, 6, True), (("west",), NORTH, 5, False), (("east",), NORTH, 6, False),
                                            (("east", "west"), NORTH, 6, True), ((), NORTH, 6, False), (("west",), SOUTH, 1, False),
                                            (("far",), NORTH, 6, False), (("west",), MID, 1, True), (("west",), MID, 0, False)):
            self.assertIs(is_other_world(RUNS, (), reports, lots, spot, number, (lot, world)), expected, (lot, spot, number))
        self.assertIs(is_other_world(RUNS, ((NORTH, SOUTH),), reports, lots, NORTH, 6, (("west",), world)), False)
        good = (("west",), world)
        for bad in (list(good), (["west"], world), good[:1], (*good, 0), world, (("west",), list(world)), (world, ("west",)), ("west", world),
                    (("west",), (world[0][::-1], (), 0)), (("west",), (*world[:2], True)), (("west",), ((("m", 5), ("n", True)), (), 0))):
            self.assertIs(is_other_world(RUNS, (), reports, lots, NORTH, 6, bad), False)
        for thing in [*PLAIN, *spoiled(good)]:
            self.assertIs(is_other_world(RUNS, (), reports, lots, NORTH, 6, thing), False)
        for thing in (good, None):
            with self.assertRaises(NoSpot):
                is_other_world(RUNS, (), reports, lots, (0, "far"), 6, thing)

    def test_drawn_worlds(self):
        rights = 0
        for runs, seen, reports, lots, spot, number in CASES[:200]:
            worlds = [free_world(runs, seen), drawn.world(random.Random(3), runs, seen)]
            for lot, world in product((*lots, ("other",)), worlds):
                expected = is_other(runs, seen, reports, lots, spot, number, (lot, world))
                self.assertIs(is_other_world(runs, seen, reports, lots, spot, number, (lot, world)), expected)
                rights += expected
        self.assertGreater(rights, 30)


class Errors(unittest.TestCase):
    def first(self, spot, function, *arguments):
        with self.assertRaises(NoSpot) as caught:
            function(RUNS, *arguments)
        self.assertEqual(caught.exception.spot, spot)

    def test_which_one_comes_first(self):
        seen, reports, spot = (((0, "r"), (0, "s")),), (("east", (0, "t"), 5), ("west", (1, "mid"), 5)), (0, "u")
        calls = [(can_be, ((),)), (lots_that_can_be, (((),),)), (least_liars, ()), (surely_holds, (((),), spot)), (surely_lie, (((),),)),
                 (other_world, (((),), spot, 5)), (is_other_world, (((),), spot, 5, None))]
        for function, more in calls:
            self.first((0, "r"), function, seen, reports, *more)
            self.first((1, "mid"), function, ((MID, (1, "mid")),), reports, *more)
            self.first((0, "t"), function, (), reports, *more)
            self.first((1, "mid"), function, (), (("east", MID, 5), *reports[1:]), *more)
            if spot in more:
                self.first((0, "u"), function, (), (), *more)
        for lots in ((), (("east", "west"),)):
            self.first((0, "t"), surely_lie, (), reports, lots)
            self.first((0, "u"), other_world, (), (), lots, [0, "u"], 5)


if __name__ == "__main__":
    unittest.main()
