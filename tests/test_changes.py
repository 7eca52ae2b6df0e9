"""changes.py: two RUNS, and what must be made again."""

import random
import unittest
from itertools import permutations

from reportalike import changes
from reportalike.changes import (
    calls_in, calls_in_row, fewest_calls, is_spared_paper, least_row, left_over, may_be_spared, minded_flags, needed_sheets,
    others, spared_paper, steps_called, taken_from, unfelt,
)
from reportalike.errors import NoOrder, NoPaper, NoSheet, NoSpot, NoStep
from tests import drawn, looks
from tests.things import PLAIN, spoiled

WAYS = ("all", "own", "none")
PLAN = (("c", "t", ("x",), "f", ()), ("d", "t", ("y",), "g", ()), ("e", "u", ("f",), "h", ()), ("k", "u", ("g",), "m", ()))
AHEAD, FRESH, BOTH = [(PLAN, (), (("x", x), ("y", y))) for x, y in ("pq", "rq", "rr")]
WORLD = ((("p", 1), ("q", 2), ("r", 3)), (("t", (1,), 4), ("t", (2,), 5), ("t", (3,), 4), ("u", (4,), 6), ("u", (5,), 7)), 0)


def case(rng):
    first = drawn.wide_run(rng, 4)
    second = drawn.changed_run(rng, first)
    if rng.random() < 0.15:
        second = drawn.wide_run(rng, 4)
    return told_case(rng, (first, second))


def told_case(rng, runs):
    second = runs[1]
    made = made_of(second)
    seen = tuple(pair for pair in drawn.seen(rng, runs, most=rng.choice((0, 2, 3))) if not all(
        place == 1 and sheet in made for place, sheet in pair))
    targets = tuple(sheet for sheet in looks.held_sheets(second) if rng.random() < 0.7)
    return runs, seen, targets, drawn.world(rng, runs, seen, rng.choice((2, 3)))


def made_of(run):
    return sorted({step[3] for step in looks.working(run[0], run[1])})


CASES = drawn.draws(130, 160, case) + drawn.draws(138, 200, lambda rng: told_case(rng, drawn.twin_runs(rng)))


def there(runs):
    return [spot for spot in looks.spots(runs) if spot[0] == 0 or spot[1] not in made_of(runs[1])]


def needed(runs, seen, targets, called=()):
    """The needed SHEETS, by the test's own look."""
    table = looks.class_of(runs, seen)
    ready = {table[spot] for spot in (*there(runs), *called)}
    row = [sheet for sheet in targets if table[(1, sheet)] not in ready]
    for sheet in row:
        row.extend(read for read in looks.maker_of(runs[1], sheet)[2] if table[(1, read)] not in ready and read not in row)
    return tuple(sorted(set(row)))


def looked(runs, world, way, called):
    """What is seen alike by this way when these SPOTS were called."""
    told = looks.numbers(world, runs)
    if way == "none":
        return []
    if way == "own":
        return [((0, sheet), (1, sheet)) for _, sheet in called if (0, sheet) in told and told[(0, sheet)] == told[(1, sheet)]]
    return [(one, other) for one, other in looks.pairs_of([*there(runs), *called]) if told[one] == told[other]]


def next_names(runs, seen, targets, world, way, called):
    row = needed(runs, [*seen, *looked(runs, world, way, called)], targets, called)
    steps = [looks.maker_of(runs[1], sheet) for sheet in row]
    return [step for step in steps if not any(read in row for read in step[2])]


def all_ways(runs, seen, targets, world, way):
    """All sets of SPOTS that are called in the end, over all ways to take the STEPS."""
    lots, ends = [()], []
    for called in lots:
        steps = next_names(runs, seen, targets, world, way, called)
        if not steps:
            ends.append(called)
        for step in steps:
            more = tuple(sorted((*called, (1, step[3]))))
            if more not in lots:
                lots.append(more)
    return ends


class Two(unittest.TestCase):
    def test_others_left_over_and_taken(self):
        unlike = gone = taken = 0
        for runs, seen, _, _ in CASES:
            table = looks.class_of(runs, seen)
            both = [sheet for sheet in looks.held_sheets(runs[0]) if sheet in looks.held_sheets(runs[1])]
            own = tuple(sheet for sheet in both if table[(0, sheet)] != table[(1, sheet)])
            self.assertEqual(others(runs, seen), own)
            unlike += 0 < len(own) < len(both)
            left = tuple(sheet for sheet in made_of(runs[0]) if sheet not in looks.held_sheets(runs[1]))
            self.assertEqual(left_over(runs), left)
            gone += len(left)
            for sheet in looks.held_sheets(runs[1]):
                spots = [spot for spot in looks.spots(runs) if spot[0] == 0 and table[spot] == table[(1, sheet)]]
                self.assertEqual(taken_from(runs, seen, sheet), min(spots, default=None))
                taken += len(spots) > 1
        self.assertGreater(min(unlike, gone, taken), 30)

    def test_others_against_plain_worlds(self):
        checked = 0
        for runs, seen in drawn.draws(131, 60, self.small):
            unlike = others(runs, seen)
            for told in looks.agreeing_worlds(runs, seen, 2):
                both = [sheet for place, sheet in told if place == 0 and (1, sheet) in told]
                self.assertTrue(all(sheet in unlike for sheet in both if told[(0, sheet)] != told[(1, sheet)]))
                checked += 1
        self.assertGreater(checked, 200)

    def small(self, rng):
        while True:
            runs = drawn.small_runs(rng)
            if len(runs) == 2:
                return runs, drawn.seen(rng, runs)

    def test_by_hand(self):
        one = ((("a", "f", ("x", "y"), "p", ()), ("b", "g", ("p",), "q", ())), (), (("x", "m"), ("y", "n"), ("z", "o")))
        other = ((("a", "f", ("y", "x"), "p", ()),), (), (("q", "o"), ("x", "m"), ("y", "n")))
        self.assertEqual(others((one, other), ()), ("p", "q"))
        self.assertEqual(left_over((one, other)), ())
        self.assertEqual(left_over((one, (other[0], (), other[2][1:]))), ("q",))
        self.assertEqual(left_over((one, ((), (), ()))), ("p", "q"))
        self.assertEqual(taken_from((one, other), (), "q"), (0, "z"))
        self.assertIsNone(taken_from((one, other), (), "p"))
        self.assertEqual(taken_from((one, other), (((0, "x"), (0, "y")),), "p"), (0, "p"))
        self.assertEqual(taken_from((one, other), (((0, "x"), (0, "y")),), "y"), (0, "x"))
        longer = ((("a", "f", ("x", "y", "y"), "p", ()),), (), other[2][1:])
        self.assertIsNone(taken_from((one, longer), (), "p"))
        self.assertIs(may_be_spared((one, longer), (), "a"), False)
        self.assertIs(may_be_spared((one, other), (), "a"), False)
        self.assertIs(may_be_spared((one, other), (((0, "x"), (0, "y")),), "a"), True)


class Calls(unittest.TestCase):
    def test_needed_and_fewest(self):
        found = 0
        for runs, seen, targets, world in CASES:
            self.assertEqual(needed_sheets(runs, seen, targets), needed(runs, seen, targets))
            ends = all_ways(runs, seen, targets, world, "none")
            self.assertEqual({len(called) for called in ends}, {fewest_calls(runs, seen, targets)})
            found += fewest_calls(runs, seen, targets) > 1
        self.assertGreater(found, 60)

    def test_each_way(self):
        several = less = 0
        for runs, seen, targets, world in CASES:
            lots = [{len(called) for called in all_ways(runs, seen, targets, world, way)} for way in WAYS]
            told = [calls_in(runs, seen, targets, world, way) for way in WAYS]
            self.assertEqual(told, [tuple(sorted(lot)) for lot in lots])
            self.assertLessEqual(max(told[1]), fewest_calls(runs, seen, targets))
            self.assertEqual(told[2], (fewest_calls(runs, seen, targets),))
            if not any(place == 1 and sheet in made_of(runs[1]) for pair in seen for place, sheet in pair):
                self.assertEqual(len(told[0]), 1)
                self.assertGreaterEqual(min(told[1]), told[0][0])
            several += len(told[1]) > 1
            less += told[0][0] < told[2][0]
        self.assertGreater(several, 2)
        self.assertGreater(less, 15)

    def test_steps_called(self):
        rng = random.Random(132)
        checked = 0
        for runs, seen, targets, world in CASES:
            names = [step[0] for step in looks.working(runs[1][0], runs[1][1])]
            for way in WAYS:
                order = tuple(rng.sample(names, len(names)))
                called, row = [], []
                steps = next_names(runs, seen, targets, world, way, called)
                while steps:
                    step = min(steps, key=lambda one: order.index(one[0]))
                    row.append(step[0])
                    called.append((1, step[3]))
                    steps = next_names(runs, seen, targets, world, way, called)
                self.assertEqual(steps_called(runs, seen, targets, world, way, order), tuple(row))
                checked += len(row) > 1
        self.assertGreater(checked, 150)

    def test_ways_by_hand(self):
        # The second RUN's g is made alike to the first one's f: by its name it is not found.
        self.assertEqual([calls_in((AHEAD, BOTH), (), ("h", "m"), WORLD, way) for way in WAYS], [(1,), (1, 2), (2,)])
        for order, names in ((("c", "d", "e", "k"), ("c",)), (("d", "k", "c", "e"), ("d", "k"))):
            self.assertEqual(steps_called((AHEAD, BOTH), (), ("h", "m"), WORLD, "own", order), names)
            self.assertEqual(len(steps_called((AHEAD, BOTH), (), ("h", "m"), WORLD, "all", order)), 1)
        # By "all" what is at hand is looked at ahead of the first call: here p and r hold the same.
        even = ((("p", 1), ("q", 2), ("r", 1)), WORLD[1], 0)
        self.assertEqual([calls_in((AHEAD, FRESH), (), ("h",), even, way) for way in WAYS], [(0,), (1,), (2,)])
        # "own" looks at a SHEET that the first RUN was told, too.
        told = ((), (), (("f", "z"), ("x", "p")))
        one = ((("c", "t", ("x",), "f", ()), ("e", "u", ("f",), "h", ())), (), (("x", "p"),))
        self.assertEqual(calls_in((told, one), (), ("h",), ((), (), 0), "own"), (2,))
        first = ((("e", "u", ("f",), "h", ()),), (), (("f", "z"), ("x", "p")))
        self.assertEqual(calls_in((first, one), (), ("h",), ((), (), 0), "own"), (1,))
        self.assertEqual(calls_in((first, one), (), ("h",), ((("z", 1),), (), 0), "own"), (2,))

    def test_targets(self):
        self.assertEqual(needed_sheets((AHEAD, FRESH), (), ("g", "m", "x", "y")), ())
        self.assertEqual(fewest_calls((AHEAD, FRESH), (), ("g", "m", "x", "y")), 0)
        self.assertEqual(needed_sheets((AHEAD, BOTH), (), ("h", "m")), ("f", "g", "h", "m"))
        self.assertEqual(fewest_calls((AHEAD, BOTH), (), ("h", "m")), 2)
        self.assertEqual(needed_sheets((AHEAD, FRESH), (), ()), ())
        seen = (((0, "f"), (1, "f")),)
        self.assertEqual(needed_sheets((AHEAD, FRESH), seen, ("f", "h")), ())
        self.assertEqual(needed_sheets((AHEAD, FRESH), (((0, "h"), (1, "f")),), ("h",)), ("h",))
        self.assertEqual(needed_sheets((AHEAD, FRESH), (((0, "x"), (1, "x")),), ("h",)), ())

    def can_be_called(self, runs, seen, world, spots):
        """Whether these can be called in some order, each one when the CLASSES of what it reads are at hand."""
        for row in permutations(spots):
            called = []
            for spot in row:
                table = looks.class_of(runs, [*seen, *looked(runs, world, "all", called)])
                ready = {table[one] for one in (*there(runs), *called)}
                if all(table[(1, read)] in ready for read in looks.maker_of(runs[1], spot[1])[2]):
                    called.append(spot)
            if len(called) == len(spots):
                return True
        return False

    def test_sure_by_fewer_calls_is_not_to_be_had(self):
        """By "all": whoever calls fewer is not sure of the targets, whichever STEPS these are."""
        checked = 0
        for runs, seen, targets, world in CASES[100:280]:
            if any(place == 1 and sheet in made_of(runs[1]) for pair in seen for place, sheet in pair):
                continue
            fewest = calls_in(runs, seen, targets, world, "all")[0]
            made = [(1, sheet) for sheet in made_of(runs[1])]
            for called in looks.subsets(made):
                if len(called) < fewest and self.can_be_called(runs, seen, world, called):
                    table = looks.class_of(runs, [*seen, *looked(runs, world, "all", called)])
                    ready = {table[spot] for spot in (*there(runs), *called)}
                    self.assertFalse(all(table[(1, sheet)] in ready for sheet in targets))
                    checked += 1
        self.assertGreater(checked, 200)


def is_sparing(runs, seen, name, world):
    """The test's own look at whether this is a sparing WORLD."""
    told, table = looks.numbers(world, runs), looks.class_of(runs, seen)
    if not looks.is_world(world) or not looks.agrees(world, runs, seen):
        return False
    if any(told[one] == told[other] and table[one] != table[other] for one, other in looks.pairs_of(there(runs))):
        return False
    step = [one for one in looks.working(runs[1][0], runs[1][1]) if one[0] == name][0]
    asked = (step[1], [told[(1, read)] for read in step[2]])
    return asked in [(one[1], [told[(0, read)] for read in one[2]]) for one in looks.working(runs[0][0], runs[0][1])]


class Spared(unittest.TestCase):
    def names(self, run):
        return [step[0] for step in looks.working(run[0], run[1])]

    def test_drawn(self):
        rng, yes, no = random.Random(133), 0, 0
        for runs, seen, _, _ in CASES:
            for name in self.names(runs[1]):
                told = may_be_spared(runs, seen, name)
                if told:
                    world = spared_paper(runs, seen, name)
                    self.assertTrue(is_sparing(runs, seen, name, world))
                    self.assertIs(is_spared_paper(runs, seen, name, world), True)
                    self.assertEqual(spared_paper(runs, seen, name), world)
                    yes += 1
                else:
                    self.assertRaises(NoPaper, spared_paper, runs, seen, name)
                    no += 1
                for many in (2, 6, 9):
                    world = drawn.world(rng, runs, seen, many)
                    expected = is_sparing(runs, seen, name, world)
                    self.assertIs(is_spared_paper(runs, seen, name, world), expected)
                    self.assertFalse(expected and not told)
        self.assertGreater(yes, 60)
        self.assertGreater(no, 60)

    def test_against_plain_worlds(self):
        """Where it may not be spared no plain WORLD is a sparing one."""
        rng, sparing, none = random.Random(134), 0, 0
        while sparing < 12 or none < 12:
            first = drawn.run(rng, most=2, reads=0, marks="mn", flags=(), sheets="ab")
            runs = (first, drawn.run(rng, most=2, reads=0, marks="mn", flags=(), sheets="abc", methods="f"))
            if not self.names(runs[1]) or not 30 < looks.how_many_plain(runs, 3) < 300:
                continue
            name, found = rng.choice(self.names(runs[1])), False
            for world in looks.plain_worlds(runs, 3):
                expected = is_sparing(runs, (), name, world)
                self.assertIs(is_spared_paper(runs, (), name, world), expected)
                found = found or expected
            self.assertFalse(found and not may_be_spared(runs, (), name))
            sparing, none = sparing + found, none + (not found)

    def test_things_that_are_no_paper(self):
        world = ((("p", 1), ("q", 2), ("r", 3)), (("t", (1,), 4), ("t", (2,), 5), ("t", (3,), 4), ("u", (4,), 6), ("u", (5,), 7)), 0)
        runs = (AHEAD, FRESH)
        self.assertIs(is_spared_paper(runs, (), "e", world), True)
        self.assertIs(is_spared_paper(runs, (), "k", world), True)
        self.assertIs(is_spared_paper(runs, (), "c", world), False)
        self.assertIs(is_spared_paper(runs, (((0, "f"), (0, "g")),), "e", world), False)
        self.assertIs(is_spared_paper(runs, (), "e", ((("p", 1), ("q", 2), ("r", 1)), world[1], 0)), False)
        for bad in spoiled(world) + list(PLAIN):
            self.assertIs(is_spared_paper(runs, (), "e", bad), False, bad)
        # In this WORLD f holds what the first f holds, but not what x holds, as it was seen.
        self.assertIs(is_spared_paper(runs, (((0, "x"), (1, "f")),), "e", world), False)

    def test_no_reads(self):
        one = ((("a", "f", (), "p", ()),), (), ())
        two = ((("b", "f", (), "q", ()), ("c", "g", (), "r", ())), (), ())
        self.assertIs(may_be_spared((one, two), (), "b"), True)
        self.assertIs(may_be_spared((one, two), (), "c"), False)
        self.assertIs(is_spared_paper((one, two), (), "b", ((), (), 0)), True)
        self.assertIs(is_spared_paper((one, two), (), "c", ((), (), 0)), False)


def tell_all(plan, variant, others_too):
    sheets = {sheet for step in (*plan, *others_too) for sheet in (*step[2], step[3])}
    return plan, variant, tuple((sheet, sheet) for sheet in sorted({*sheets, "none"}))


class Unfelt(unittest.TestCase):
    def test_drawn(self):
        rng, same = random.Random(135), 0
        for _ in range(120):
            one = drawn.sound_plan(rng)
            other = tuple(sorted(step for step in (drawn.changed_step(rng, step) for step in one) if rng.random() < 0.9))
            if not looks.sound(other):
                continue
            variants = drawn.some_of(rng, ("u", "v", "w")), drawn.some_of(rng, ("u", "v"))
            runs = tell_all(one, variants[0], other), tell_all(other, variants[1], one)
            for sheet in (*dict(runs[0][2]), "none"):
                expected = looks.term(runs[0], sheet) == looks.term(runs[1], sheet)
                self.assertIs(unfelt((one, variants[0]), (other, variants[1]), sheet), expected)
                same += expected and looks.maker_of(runs[0], sheet) is not None
        self.assertGreater(same, 20)

    def test_minded_flags(self):
        rng, found = random.Random(136), 0
        for _ in range(100):
            plan = drawn.sound_plan(rng)
            for sheet in (*sorted({sheet for step in plan for sheet in (*step[2], step[3])}), "none"):
                own = []
                for flag in looks.flags(plan):
                    lots = [lot for lot in looks.subsets(looks.flags(plan)) if flag not in lot]
                    pairs = [(tell_all(plan, lot, ()), tell_all(plan, tuple(sorted((*lot, flag))), ())) for lot in lots]
                    if any(looks.term(one, sheet) != looks.term(other, sheet) for one, other in pairs):
                        own.append(flag)
                self.assertEqual(minded_flags(plan, sheet), tuple(own))
                found += len(own)
        self.assertGreater(found, 30)

    def test_by_hand(self):
        plan = (("a", "f", ("x",), "p", (("u", 1),)), ("b", "f", ("x",), "p", (("u", 0),)), ("c", "g", ("y",), "q", (("v", 1),)))
        self.assertIs(unfelt((plan, ()), (plan, ("u",)), "p"), True)
        self.assertIs(unfelt((plan, ()), (plan, ("v",)), "q"), False)
        self.assertIs(unfelt((plan, ()), ((), ()), "q"), True)
        self.assertIs(unfelt((plan, ("v",)), ((), ()), "q"), False)
        self.assertIs(unfelt((plan, ()), ((), ()), "far"), True)
        self.assertEqual((minded_flags(plan, "p"), minded_flags(plan, "q"), minded_flags(plan, "x"), minded_flags((), "x")), ((), ("v",), (), ()))


class Rows(unittest.TestCase):
    def calls(self, runs, order, kept):
        """By the test's own making, STEP by STEP, in terms."""
        count, ends = 0, []
        for place in order:
            run = runs[place]
            ready = {term for lot in (ends if kept == "all" else ends[-1:]) for term in lot}
            ready |= {looks.term(run, sheet) for sheet in looks.held_sheets(run) if sheet not in made_of(run)}
            left = True
            while left:
                left = [step for step in looks.working(run[0], run[1]) if looks.term(run, step[3]) not in ready
                        and all(looks.term(run, read) in ready for read in step[2])]
                if left:
                    ready.add(looks.term(run, left[0][3]))
                    count += 1
            ends.append({looks.term(run, sheet) for sheet in looks.held_sheets(run)})
        return count

    def drawn_runs(self, rng):
        runs = [drawn.wide_run(rng, 4, marks="mn")]
        for _ in range(rng.randint(0, 3)):
            runs.append(drawn.changed_run(rng, rng.choice(runs), marks="mn"))
        return tuple(runs)

    def test_drawn(self):
        several = unlike = 0
        for runs in drawn.draws(137, 40, self.drawn_runs):
            orders = list(permutations(range(len(runs))))
            table = {order: self.calls(runs, order, "last") for order in orders}
            for order in orders:
                self.assertEqual(calls_in_row(runs, order, "last"), table[order])
                self.assertEqual(calls_in_row(runs, order, "all"), self.calls(runs, orders[0], "all"))
            fewest = [order for order in orders if table[order] == min(table.values())]
            self.assertEqual(least_row(runs), fewest[0])
            several += len(fewest) > 1
            unlike += len(set(table.values())) > 1
        self.assertGreater(several, 10)
        self.assertGreater(unlike, 10)

    def test_edges(self):
        self.assertEqual(calls_in_row((AHEAD,), (0,), "all"), 4)
        self.assertEqual(calls_in_row((BOTH,), (0,), "last"), 2)
        self.assertEqual(least_row((BOTH,)), (0,))
        self.assertEqual(least_row((AHEAD, AHEAD)), (0, 1))
        self.assertEqual(calls_in_row((((), (), ()),), (0,), "last"), 0)


class Errors(unittest.TestCase):
    def expect(self, kind, attribute, value, function, *arguments):
        with self.subTest(function=function.__name__, arguments=arguments):
            with self.assertRaises(kind) as caught:
                function(*arguments)
            self.assertEqual(getattr(caught.exception, attribute), value)

    def test_no_spot_first(self):
        runs, bad = (AHEAD, FRESH), ((((0, "f"), (1, "q")),), (((0, "z"), (1, "q")), ((2, "f"), (3, "f"))))
        for seen, spot in zip(bad, ((1, "q"), (0, "z"))):
            self.expect(NoSpot, "spot", spot, others, runs, seen)
            self.expect(NoSpot, "spot", spot, taken_from, runs, seen, "none")
            for function in (needed_sheets, fewest_calls):
                self.expect(NoSpot, "spot", spot, function, runs, seen, ("none",))
            self.expect(NoSpot, "spot", spot, steps_called, runs, seen, ("none",), WORLD, "all", ("none",))
            self.expect(NoSpot, "spot", spot, calls_in, runs, seen, ("none",), WORLD, "all")
            for name in ("none", "e"):
                self.expect(NoSpot, "spot", spot, may_be_spared, runs, seen, name)
                self.expect(NoSpot, "spot", spot, spared_paper, runs, seen, name)
                self.expect(NoSpot, "spot", spot, is_spared_paper, runs, seen, name, None)

    def test_no_sheet(self):
        runs = (AHEAD, (PLAN[:2], (), FRESH[2]))
        for targets, sheet in ((("a", "h", "z"), "a"), (("f", "h", "z"), "h"), (("x", "z"), "z")):
            for function in (needed_sheets, fewest_calls):
                self.expect(NoSheet, "sheet", sheet, function, runs, (), targets)
            self.expect(NoSheet, "sheet", sheet, steps_called, runs, (), targets, WORLD, "all", ("none",))
            self.expect(NoSheet, "sheet", sheet, calls_in, runs, (), targets, WORLD, "own")
        self.expect(NoSheet, "sheet", "h", taken_from, runs, (), "h")

    def test_no_step(self):
        runs = (AHEAD, ((*PLAN[:3], ("k", "u", ("g",), "m", (("v", 1),))), (), FRESH[2]))
        for name in ("k", "none", "f"):
            self.expect(NoStep, "name", name, may_be_spared, runs, (), name)
            self.expect(NoStep, "name", name, spared_paper, runs, (), name)
            for thing in (None, ((), (), 0), WORLD):
                self.expect(NoStep, "name", name, is_spared_paper, runs, (), name, thing)
        self.assertRaises(NoPaper, changes.spared_paper, runs, (), "c")

    def test_no_order(self):
        runs = (AHEAD, ((*PLAN[:3], ("k", "u", ("g",), "m", (("v", 1),))), (), FRESH[2]))
        self.assertEqual(steps_called(runs, (), ("h",), WORLD, "none", ("e", "d", "c")), ("c", "e"))
        for order in ((), ("c", "d"), ("c", "d", "e", "k"), ("c", "c", "d", "e"), ("c", "d", "none"), ("c", "d", "d")):
            for way in WAYS:
                self.assertRaises(NoOrder, steps_called, runs, (), ("h",), WORLD, way, order)
                self.assertRaises(NoOrder, steps_called, runs, (), (), WORLD, way, order)
