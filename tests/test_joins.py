"""joins.py: RUNS put together, and what is fresh in them."""

import random
import unittest
from itertools import permutations

from reportalike import joins
from reportalike.errors import NoPaper, NoSheet, NotSound
from reportalike.joins import (
    at_hand, clashes, fresh_sheets, idle_clashes, is_none_paper, joined, none_paper, steps_wanted, tree_runs,
)
from reportalike.runs import is_run
from tests import drawn, looks
from tests.things import PLAIN, spoiled

PLAN = (("f", "mix", ("x", "y"), "m", ()), ("g", "sum", ("m", "z"), "t", ()))
COUNTS = (("x", "a"), ("y", "b"), ("z", "c"))
BASE, LEFT, RIGHT = (PLAN, (), COUNTS), (PLAN, (), (("x", "d"), *COUNTS[1:])), (PLAN, (), (COUNTS[0], ("y", "e"), COUNTS[2]))
BOTH = (PLAN, (), (("x", "d"), ("y", "e"), ("z", "c")))


def has(run, item):
    if item[0] == "count":
        return dict(run[2]).get(item[1])
    return {step[0]: step for step in run[0]}.get(item[1])


def items(*runs):
    found = {("count", sheet) for run in runs for sheet, _ in run[2]} | {("step", step[0]) for run in runs for step in run[0]}
    return sorted(found)


def clashing(base, left, right):
    lots = [(item, has(base, item), has(left, item), has(right, item)) for item in items(base, left, right)]
    return tuple(item for item, old, one, other in lots if one != old and other != old and one != other)


def join(base, left, right, takes):
    """The JOIN as it comes, RUN or not."""
    counts, plan = [], []
    for item in items(base, left, right):
        own = has(left, item)
        if has(left, item) == has(base, item) or (item in takes and item in clashing(base, left, right)):
            own = has(right, item)
        if own is not None and item[0] == "count":
            counts.append((item[1], own))
        elif own is not None:
            plan.append(own)
    return tuple(plan), base[1], tuple(counts)


def fault(run):
    """What is wrong with it: the error and the SHEET; None if it is a RUN."""
    if not looks.sound(run[0]):
        return NotSound, None
    untold = [sheet for sheet in looks.needed(run[0], run[1]) if sheet not in dict(run[2])]
    return (NoSheet, untold[0]) if untold else None


def three(rng):
    """RUNS of one VARIANT: one, and two that come of it by changes."""
    base = drawn.wide_run(rng, 3)
    return base, drawn.changed_run(rng, base), drawn.changed_run(rng, base)


CASES = drawn.draws(140, 260, three)


class Joined(unittest.TestCase):
    def test_drawn(self):
        rng = random.Random(141)
        found = {None: 0, NotSound: 0, NoSheet: 0, "clash": 0, "takes": 0}
        for base, left, right in CASES:
            own = clashing(base, left, right)
            self.assertEqual(clashes(base, left, right), own)
            found["clash"] += len(own) > 0
            for takes in {(), own, drawn.some_of(rng, own), drawn.some_of(rng, items(base, left, right)), (("count", "none"), ("step", "none"))}:
                run = join(base, left, right, takes)
                wrong = fault(run)
                if wrong is None:
                    self.assertEqual(joined(base, left, right, takes), run)
                    self.assertIs(is_run(run), True)
                    found[None] += 1
                    found["takes"] += run != join(base, left, right, ())
                    continue
                with self.assertRaises(wrong[0]) as caught:
                    joined(base, left, right, takes)
                if wrong[1]:
                    self.assertEqual(caught.exception.sheet, wrong[1])
                found[wrong[0]] += 1
        self.assertGreater(min(found.values()), 10, found)

    def test_items_one_by_one(self):
        step, more, other = PLAN[0], ("h", "sum", ("x",), "n", ()), ("f", "mix", ("y", "x"), "m", ())
        none, third = (PLAN[1:], (), (("m", "o"), *COUNTS)), ("f", "pick", ("x",), "m", ())
        added = ((*PLAN, more), (), COUNTS)
        self.assertEqual(joined(BASE, added, BASE, ()), added)
        self.assertEqual(joined(BASE, BASE, added, ()), added)
        self.assertEqual(joined(BASE, added, added, ()), added)
        self.assertEqual(clashes(BASE, added, added), ())
        self.assertEqual(joined(BASE, none, BASE, ()), none)
        self.assertEqual(joined(BASE, BASE, none, ()), none)
        self.assertEqual(joined(BASE, none, none, ()), none)
        turned, changed = ((other, PLAN[1]), (), COUNTS), ((third, PLAN[1]), (), COUNTS)
        self.assertEqual(clashes(BASE, turned, changed), (("step", "f"),))
        self.assertEqual(joined(BASE, turned, changed, ())[0][0], other)
        self.assertEqual(joined(BASE, turned, changed, (("step", "f"),))[0][0], third)
        self.assertEqual(joined(BASE, turned, changed, (("count", "x"), ("step", "g"), ("step", "q")))[0][0], other)
        # One leaves it out, the other one changes it.
        self.assertEqual(clashes(BASE, none, changed), (("step", "f"),))
        self.assertEqual(joined(BASE, none, changed, ())[0], PLAN[1:])
        self.assertEqual(joined(BASE, none, changed, (("step", "f"),))[0], (third, PLAN[1]))
        self.assertEqual(joined(BASE, changed, none, (("step", "f"),))[0], PLAN[1:])
        # Both add one, by one NAME, with other reads; both tell a MARK, and another one.
        apart = ("h", "sum", ("y",), "n", ())
        self.assertEqual(clashes(BASE, added, ((*PLAN, apart), (), COUNTS)), (("step", "h"),))
        told = [(PLAN, (), (("k", mark), *COUNTS)) for mark in "uvu"]
        self.assertEqual(clashes(BASE, told[0], told[1]), (("count", "k"),))
        self.assertEqual(clashes(BASE, told[0], told[2]), ())
        self.assertEqual(joined(BASE, told[0], told[1], (("count", "k"),))[2][0], ("k", "v"))
        self.assertEqual(joined(told[0], BASE, told[1], ())[2], COUNTS)
        self.assertEqual(clashes(told[0], BASE, told[1]), (("count", "k"),))
        self.assertEqual(joined(told[0], BASE, told[1], (("count", "k"),))[2][0], ("k", "v"))
        self.assertEqual(step, has(BASE, ("step", "f")))

    def test_not_sound_ahead_of_no_sheet(self):
        base = ((), (), (("x", "a"),))
        left = ((("p", "f", ("x",), "m", ()),), (), (("x", "a"),))
        right = ((("q", "f", ("x",), "m", ()),), (), (("x", "a"),))
        self.assertRaises(NotSound, joined, base, left, right, ())
        ring = ((("q", "f", ("m",), "x", ()),), (), (("m", "a"),))
        self.assertRaises(NotSound, joined, base, left, ring, ())
        gone = ((("q", "f", (), "m", ()),), (), ())
        self.assertRaises(NotSound, joined, base, left, gone, ())
        with self.assertRaises(NoSheet) as caught:
            joined(base, left, ((), (), ()), ())
        self.assertEqual(caught.exception.sheet, "x")
        two = ((("p", "f", ("y", "x"), "m", ()),), (), (("x", "a"), ("y", "b")))
        wide = ((), (), (("x", "a"), ("y", "b")))
        with self.assertRaises(NoSheet) as caught:
            joined(wide, two, ((), (), ()), ())
        self.assertEqual(caught.exception.sheet, "x")
        # A PLAN that is unsound at another VARIANT alone is not sound, either.
        flags = ((("q", "f", ("x",), "m", (("u", 1),)),), (), (("x", "a"),))
        self.assertRaises(NotSound, joined, base, left, flags, ())


def several(rng):
    """RUNS, SEEN of them, and one RUN more."""
    base = drawn.wide_run(rng, 3)
    runs = [base] + [drawn.changed_run(rng, base) for _ in range(rng.randint(0, 2))]
    more = drawn.changed_run(rng, rng.choice(runs)) if rng.random() < 0.9 else drawn.wide_run(rng, 4)
    return tuple(runs), drawn.seen(rng, tuple(runs), most=2), more


LOTS = drawn.draws(142, 200, several)


class Fresh(unittest.TestCase):
    def test_at_hand_and_fresh(self):
        fresh = there = 0
        for runs, seen, run in LOTS:
            place, table = len(runs), looks.class_of((*runs, run), seen)
            own = []
            for sheet in looks.held_sheets(run):
                spots = tuple(spot for spot in looks.spots(runs) if table[spot] == table[(place, sheet)])
                self.assertEqual(at_hand(runs, seen, run, sheet), spots)
                if not spots:
                    own.append(sheet)
                    self.check_paper(runs, seen, run, sheet)
                else:
                    self.assertRaises(NoPaper, none_paper, runs, seen, run, sheet)
                    there += len(spots) > 1
            self.assertEqual(fresh_sheets(runs, seen, run), tuple(own))
            fresh += len(own)
        self.assertGreater(fresh, 150)
        self.assertGreater(there, 100)

    def check_paper(self, runs, seen, run, sheet):
        world = none_paper(runs, seen, run, sheet)
        self.assertTrue(self.is_paper(runs, seen, run, sheet, world))
        self.assertIs(is_none_paper(runs, seen, run, sheet, world), True)
        self.assertEqual(none_paper(runs, seen, run, sheet), world)

    def is_paper(self, runs, seen, run, sheet, world):
        if not looks.is_world(world) or not looks.agrees(world, runs, seen):
            return False
        return looks.held(world, run, sheet) not in looks.numbers(world, runs).values()

    def test_is_none_paper_in_many_worlds(self):
        rng, papers = random.Random(143), 0
        for runs, seen, run in LOTS:
            for many in (2, 4, 9):
                world = drawn.world(rng, (*runs, run), seen, many)
                for sheet in looks.held_sheets(run):
                    expected = self.is_paper(runs, seen, run, sheet, world)
                    self.assertIs(is_none_paper(runs, seen, run, sheet, world), expected)
                    self.assertFalse(expected and sheet not in fresh_sheets(runs, seen, run))
                    papers += expected
        self.assertGreater(papers, 100)

    def test_small_plain_worlds(self):
        """What is at hand is held by some SPOT in all plain WORLDS that agree."""
        checked = 0
        for runs, seen in drawn.draws(144, 80, lambda rng: self.small(rng)):
            runs, run = runs[:-1], runs[-1]
            fresh = fresh_sheets(runs, seen, run)
            for told in looks.agreeing_worlds((*runs, run), seen, 2):
                there = [number for spot, number in told.items() if spot[0] < len(runs)]
                for sheet in looks.held_sheets(run):
                    if sheet not in fresh:
                        self.assertIn(told[(len(runs), sheet)], there)
                        checked += 1
        self.assertGreater(checked, 300)

    def small(self, rng):
        while True:
            runs = drawn.small_runs(rng, most=3)
            if len(runs) > 1:
                return runs, drawn.seen(rng, runs[:-1])

    def test_things_that_are_no_paper(self):
        runs = (BASE, LEFT, RIGHT)
        world = none_paper(runs, (), BOTH, "t")
        for bad in spoiled(world) + list(PLAIN):
            self.assertIs(is_none_paper(runs, (), BOTH, "t", bad), False, bad)
        self.assertIs(is_none_paper(runs, (), BOTH, "x", world), False)
        self.assertIs(is_none_paper(runs, (((0, "x"), (0, "y")),), BOTH, "t", world), False)
        hand = ((("a", 1), ("b", 2), ("c", 3), ("d", 4), ("e", 5)), (("mix", (4, 5), 9),), 0)
        self.assertIs(is_none_paper(runs, (), BOTH, "m", hand), True)
        self.assertIs(is_none_paper(runs, (), BOTH, "t", hand), False)

    def test_no_sheet_first(self):
        runs = (BASE, LEFT)
        for sheet in ("none", "k", "f"):
            calls = [(at_hand, (sheet,)), (none_paper, (sheet,)), (steps_wanted, (("m", sheet, "zz"),)), (steps_wanted, ((sheet, "m"),))]
            calls += [(is_none_paper, (sheet, thing)) for thing in (None, ((), (), 0), "ab")]
            for function, more in calls:
                with self.assertRaises(NoSheet) as caught:
                    function(runs, (), BOTH, *more)
                self.assertEqual(caught.exception.sheet, sheet)
        off = ((*PLAN, ("h", "f", ("x",), "k", (("u", 1),))), (), COUNTS)
        self.assertRaises(NoSheet, at_hand, runs, (), off, "k")


class Wanted(unittest.TestCase):
    def least(self, runs, seen, run, sheets):
        """By a look at all sets of STEPS, in all orders: the least of the smallest."""
        place, table = len(runs), looks.class_of((*runs, run), seen)
        made = {step[3] for step in looks.working(run[0], run[1])}
        start = {table[spot] for spot in looks.spots(runs)} | {table[(place, sheet)] for sheet in looks.held_sheets(run) if sheet not in made}
        steps = looks.working(run[0], run[1])
        for many in range(len(steps) + 1):
            right = []
            for row in permutations(steps, many):
                there = set(start)
                for step in row:
                    if all(table[(place, read)] in there for read in step[2]):
                        there.add(table[(place, step[3])])
                if all(table[(place, sheet)] in there for sheet in sheets):
                    right.append(tuple(sorted(step[0] for step in row)))
            if right:
                return min(right)
        return None

    def test_drawn(self):
        rng, some = random.Random(145), 0
        for runs, seen, run in LOTS:
            row = looks.held_sheets(run)
            for sheets in ((), tuple(row), drawn.some_of(rng, row)):
                told = steps_wanted(runs, seen, run, sheets)
                self.assertEqual(told, self.least(runs, seen, run, sheets))
                some += len(told) > 1
        self.assertGreater(some, 80)

    def test_alike_fresh_sheets(self):
        plan = (("a", "f", ("x",), "p", ()), ("b", "f", ("x",), "q", ()), ("c", "g", ("q",), "r", ()), ("d", "g", ("p",), "s", ()))
        base, run = ((), (), (("x", "m"),)), (plan, (), (("x", "n"),))
        self.assertEqual(steps_wanted((base,), (), run, ("r",)), ("a", "c"))
        self.assertEqual(steps_wanted((base,), (), run, ("s", "x")), ("a", "c"))
        self.assertEqual(steps_wanted((base,), (), run, ("q",)), ("a",))
        self.assertEqual(steps_wanted((run,), (), run, ("p", "q", "r", "s", "x")), ())


class Idle(unittest.TestCase):
    def drawn_case(self, rng):
        """Three RUNS with one to three clashes, all of whose JOINS are RUNS."""
        while True:
            base, left, right = three(rng)
            own = clashing(base, left, right)
            if 0 < len(own) < 4:
                lots = [join(base, left, right, takes) for takes in looks.subsets(own)]
                sheets = [sheet for sheet in looks.held_sheets(lots[0]) if not any(map(fault, lots)) and all(
                    sheet in looks.held_sheets(lot) for lot in lots)]
                if sheets:
                    return base, left, right, drawn.seen(rng, (base, left, right), most=3), rng.choice(sheets)

    def test_drawn(self):
        idle = felt = 0
        for base, left, right, seen, sheet in drawn.draws(146, 120, self.drawn_case):
            own, found = clashing(base, left, right), []
            for item in own:
                others = [takes for takes in looks.subsets(own) if item not in takes]
                same = True
                for takes in others:
                    two = [join(base, left, right, lot) for lot in (takes, (*takes, item))]
                    table = looks.class_of((base, left, right, *two), seen)
                    same = same and table[(3, sheet)] == table[(4, sheet)]
                if same:
                    found.append(item)
            self.assertEqual(idle_clashes(base, left, right, seen, sheet), tuple(found))
            idle += len(found)
            felt += len(own) - len(found)
        self.assertGreater(idle, 20)
        self.assertGreater(felt, 20)

    def test_by_hand(self):
        one, other = [(PLAN, (), (("x", mark), *COUNTS[1:])) for mark in "de"]
        self.assertEqual(idle_clashes(BASE, one, other, (), "t"), ())
        self.assertEqual(idle_clashes(BASE, one, other, (), "y"), (("count", "x"),))
        self.assertEqual(idle_clashes(BASE, one, other, (((1, "m"), (2, "m")),), "t"), (("count", "x"),))
        self.assertEqual(idle_clashes(BASE, one, one, (), "t"), ())


def all_trees(places):
    if len(places) == 1:
        return [places[0]]
    found = []
    for some in looks.subsets(places):
        if 0 < len(some) < len(places):
            rest = tuple(place for place in places if place not in some)
            found += [(one, other) for one in all_trees(some) for other in all_trees(rest)]
    return found


class Trees(unittest.TestCase):
    def told(self, base, sides, tree):
        """The RUN and the number, or the fault."""
        if isinstance(tree, int):
            return sides[tree], 0
        halves = [self.told(base, sides, part) for part in tree]
        for half in halves:
            if half[1] is None:
                return half
        run = join(base, halves[0][0], halves[1][0], ())
        if fault(run):
            return fault(run), None
        place, runs = 3, (base, halves[0][0], halves[1][0], run)
        table = looks.class_of(runs, ())
        old = {table[spot] for spot in table if spot[0] < place}
        fresh = [sheet for sheet in looks.held_sheets(run) if table[(place, sheet)] not in old]
        return run, halves[0][1] + halves[1][1] + len(fresh)

    def test_drawn(self):
        rng, faults, numbers = random.Random(147), 0, 0
        for base, _, _ in CASES[:90]:
            sides = tuple(drawn.changed_run(rng, base) for _ in range(rng.randint(1, 4)))
            trees = [tree for many in range(1, len(sides) + 1) for tree in all_trees(tuple(range(many)))]
            for tree in rng.sample(trees, min(5, len(trees))):
                own, many = self.told(base, sides, tree)
                if many is None:
                    with self.assertRaises(own[0]) as caught:
                        tree_runs(base, sides, tree)
                    if own[1]:
                        self.assertEqual(caught.exception.sheet, own[1])
                    faults += 1
                else:
                    self.assertEqual(tree_runs(base, sides, tree), many)
                    numbers += many > 1
        self.assertGreater(faults, 20)
        self.assertGreater(numbers, 20)

    def apart(self, rng):
        """A base, and sides that change MARKS and METHODS, no two of them one ITEM, all MARKS and METHODS unlike."""
        plan, variant, counts = drawn.wide_run(rng, 4)
        plan = tuple((name, "m" + name, *rest) for name, _, *rest in plan)
        base = (plan, variant, tuple((sheet, "s" + sheet) for sheet, _ in counts))
        row = [item for item in items(base) if rng.random() < 0.8]
        rng.shuffle(row)
        many = rng.randint(1, 4)
        lots = [row[at::many] for at in range(many)]
        sides = []
        for lot in lots:
            steps = tuple((step[0], "new" + step[0], *step[2:]) if ("step", step[0]) in lot else step for step in plan)
            told = tuple((sheet, "new" + sheet) if ("count", sheet) in lot else (sheet, mark) for sheet, mark in base[2])
            sides.append((steps, variant, told))
        return base, tuple(sides), lots

    def reached(self, run, sheet):
        """The ITEMS at a SHEET or ahead of it."""
        step = looks.maker_of(run, sheet)
        if step is None:
            return {("count", sheet)}
        return {("step", step[0])}.union(*[self.reached(run, read) for read in step[2]])

    def test_the_same_for_all_trees(self):
        checked = 0
        for base, sides, lots in drawn.draws(148, 40, self.apart):
            expected = 0
            for step in base[0]:
                many = sum(1 for lot in lots if self.reached(base, step[3]) & set(lot))
                expected += max(many - 1, 0)
            for tree in all_trees(tuple(range(len(sides)))):
                self.assertEqual(tree_runs(base, sides, tree), expected)
                checked += expected > 0
        self.assertGreater(checked, 100)

    def test_by_hand(self):
        self.assertEqual(tree_runs(BASE, (LEFT,), 0), 0)
        self.assertEqual(tree_runs(BASE, (LEFT, RIGHT), (0, 1)), 2)
        self.assertEqual(tree_runs(BASE, (LEFT, LEFT), (1, 0)), 0)
        third = (PLAN, (), (*COUNTS[:2], ("z", "k")))
        self.assertEqual(tree_runs(BASE, (LEFT, RIGHT, third), ((2, 0), 1)), 3)
        self.assertEqual(joins.tree_runs(BASE, (LEFT, RIGHT, third), [[2, 0], 1]), 3)
        twice, gone = ((*PLAN, ("q", "f", (), "m", ())), (), COUNTS), ((), (), COUNTS)
        self.assertRaises(NotSound, tree_runs, (PLAN[:0], (), COUNTS), (BASE, ((("q", "f", (), "m", ()),), (), COUNTS)), (0, 1))
        self.assertEqual(tree_runs(BASE, (gone,), 0), 0)
        self.assertFalse(looks.sound(twice[0]))
