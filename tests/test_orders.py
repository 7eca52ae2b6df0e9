"""orders.py: WAITS, ORDERS, and what all of them leave alike."""

import random
import unittest
from itertools import combinations, permutations

from reportalike import orders
from reportalike.errors import NoNumber, NoOrder, NoPaper, NoSheet, NoStep
from reportalike.orders import (
    again_for_all, ahead_of, fewest_rounds, how_many_orders, is_order, is_other_paper, is_waits, is_wrong_paper, left_in,
    loosest, nth_order, number_of_order, other_paper, patterns, read_kind, right_for_all, same_for_all, wrong_paper,
)
from tests import drawn, looks
from tests.things import PLAIN, spoiled


def case(rng, most=4, beside=1, **more):
    """RUNS, SEEN pairs of them, the place of one whose COUNTS tell all that is read, and WAITS of this one."""
    some = [drawn.run(rng, **more) for _ in range(rng.randint(0, beside))]
    place = rng.randint(0, len(some))
    some.insert(place, drawn.run(rng, full=True, most=most, **more))
    return tuple(some), drawn.seen(rng, tuple(some), most=2), place, drawn.waits(rng, some[place], rng.choice((0.1, 0.3, 0.6)))


CASES = drawn.draws(100, 220, case) + drawn.draws(101, 120, lambda rng: case(rng, sheets="abc", marks="mn"))
CASES = CASES + drawn.draws(105, 260, lambda rng: case(rng, dense=True, marks=rng.choice(("m", "mn", "mnk"))))
GREAT = drawn.draws(106, 15, lambda rng: case(rng, most=6, beside=0, dense=True)) + drawn.draws(102, 25, lambda rng: case(rng, most=6, beside=0, flags=(), sheets="abcdefgh"))
PLAN = (("x", "f", ("a",), "b", ()), ("y", "g", ("b",), "c", ()))
RUN = (PLAN, (), (("a", "m"), ("b", "n")))
OFF = (
    ("first", "f", ("in",), "one", ()), ("gone", "f", ("one",), "two", (("more", 1),)),
    ("idle", "g", ("two",), "far", (("more", 1),)), ("last", "g", ("one", "two", "one"), "end", ()),
)
LEAN = (OFF, (), (("in", "m"), ("one", "n"), ("two", "k")))


def names_of(run):
    return [step[0] for step in looks.working(run[0], run[1])]


def kind(run, waits, name, sheet):
    maker = looks.maker_of(run, sheet)
    if maker is None:
        return "counts"
    pairs = looks.ahead_pairs(run, waits)
    if (maker[0], name) in pairs:
        return "late"
    return "early" if (name, maker[0]) in pairs else "loose"


def told_patterns(run, waits, name):
    """The PATTERNS, by a look at all ORDERS."""
    step = [step for step in run[0] if step[0] == name][0]
    loose = sorted({sheet for sheet in step[2] if kind(run, waits, name, sheet) == "loose"})
    found = set()
    for row in looks.orders(run, waits):
        found.add(tuple(sheet for sheet in loose if row.index(looks.maker_of(run, sheet)[0]) < row.index(name)))
    return loose, sorted(found)


class Left:
    """What all ORDERS of a case leave, in terms, and which terms must be the same."""

    def __init__(self, runs, seen, place, waits, again=False):
        self.terms, self.run = looks.Terms(), runs[place]
        nodes = {spot: self.terms.of(runs[spot[0]], spot[1]) for spot in looks.spots(runs)}
        self.right = {sheet: nodes[(place, sheet)] for sheet in looks.held_sheets(self.run)}
        start = looks.at_start(self.terms, self.run)
        self.ends = [looks.played(self.terms, self.run, row, start) for row in looks.orders(self.run, waits)]
        if again:
            self.ends = looks.ends_again(self.terms, self.run, waits)
        self.lead = self.terms.classes([(nodes[one], nodes[other]) for one, other in seen])

    def classes(self, end):
        return {sheet: self.lead[node] for sheet, node in end.items()}

    def same(self):
        return all(self.classes(end) == self.classes(self.ends[0]) for end in self.ends)

    def are_right(self):
        return all(self.classes(end) == self.classes(self.right) for end in self.ends)


class Waits(unittest.TestCase):
    def test_right(self):
        for good in ((), (("x", "y"),), (("y", "x"),)):
            self.assertIs(is_waits(RUN, good), True)
        for good in ((("first", "gone"), ("gone", "last")), (("gone", "first"), ("idle", "gone"), ("last", "idle")),
                     tuple(combinations(("first", "gone", "idle", "last"), 2))):
            self.assertIs(is_waits(LEAN, good), True)
        names = [one + two for one in "abcdefghij" for two in "abcde"]
        plan = tuple((name, "m", (), "s" + name, ()) for name in names)
        self.assertIs(is_waits((plan, (), ()), tuple(combinations(names, 2))), True)
        self.assertIs(is_waits((plan, (), ()), tuple(sorted((*combinations(names, 2), (names[-1], names[0]))))), False)

    def test_wrong(self):
        for bad in ((("x", "x"),), (("x", "y"), ("y", "x")), (("x", "y"), ("x", "y")), (("y", "x"), ("x", "y")), ("x", "y"),
                    (("x", "z"),), (("a", "b"),), (("x",),), (("x", "y", "y"),), ("xy",), (("f", "x"),)):
            self.assertIs(is_waits(RUN, bad), False, bad)
        for bad in ((("first", "gone"), ("gone", "first")), (("first", "gone"), ("gone", "idle"), ("idle", "first")),
                    (("gone", "last"), ("first", "gone")), (("gone", "idle"), ("idle", "gone"))):
            self.assertIs(is_waits(LEAN, bad), False, bad)
        for bad in spoiled((("first", "gone"), ("gone", "last"))):
            self.assertIs(is_waits(LEAN, bad), False, bad)
        for thing in PLAIN:
            self.assertIs(is_waits(LEAN, thing), repr(thing) == "()", thing)

    def test_drawn(self):
        rng = random.Random(103)
        for runs, _, place, waits in CASES[:80]:
            run = runs[place]
            self.assertIs(is_waits(run, waits), True)
            names = [step[0] for step in run[0]]
            for _ in range(6):
                pairs = tuple(sorted({(rng.choice(names), rng.choice(names)) for _ in range(3)})) if names else ()
                rings = all(any(row.index(one) >= row.index(other) for one, other in pairs) for row in permutations(names))
                self.assertIs(is_waits(run, pairs), not rings)

    def test_ahead_of(self):
        waits = (("first", "gone"), ("gone", "idle"), ("idle", "last"))
        self.assertEqual((ahead_of(LEAN, waits, "last"), ahead_of(LEAN, waits, "first")), (("first",), ()))
        full = (OFF, ("more",), LEAN[2])
        self.assertEqual(ahead_of(full, waits, "last"), ("first", "gone", "idle"))
        for runs, _, place, waits in CASES:
            pairs = looks.ahead_pairs(runs[place], waits)
            for name in names_of(runs[place]):
                self.assertEqual(ahead_of(runs[place], waits, name), tuple(sorted(one for one, other in pairs if other == name)))

    def test_read_kind(self):
        kinds = set()
        for runs, _, place, waits in CASES:
            for step in looks.working(*runs[place][:2]):
                for sheet in step[2]:
                    self.assertEqual(read_kind(runs[place], waits, step[0], sheet), kind(runs[place], waits, step[0], sheet))
                    kinds.add(kind(runs[place], waits, step[0], sheet))
        self.assertEqual(kinds, {"late", "early", "loose", "counts"})

    def test_patterns(self):
        many = set()
        for runs, _, place, waits in CASES + GREAT:
            for name in names_of(runs[place]):
                loose, told = told_patterns(runs[place], waits, name)
                self.assertEqual(patterns(runs[place], waits, name), told)
                many.add(len(told))
                pairs = looks.ahead_pairs(runs[place], waits)
                makers = {sheet: looks.maker_of(runs[place], sheet)[0] for sheet in loose}
                self.assertEqual(told, [some for some in looks.subsets(loose) if all(
                    less in some for less in loose for more in some if (makers[less], makers[more]) in pairs)])
        self.assertTrue(many >= {1, 2, 4})

    def test_patterns_of_a_row_of_makers(self):
        plan = (("p", "f", (), "a", ()), ("q", "f", (), "b", ()), ("r", "f", (), "c", ()), ("s", "g", ("c", "a", "b"), "d", ()))
        run = (plan, (), (("a", "m"), ("b", "m"), ("c", "m")))
        self.assertEqual(patterns(run, (("p", "q"), ("q", "r")), "s"), [(), ("a",), ("a", "b"), ("a", "b", "c")])
        self.assertEqual(patterns(run, (("p", "r"),), "s"), [(), ("a",), ("a", "b"), ("a", "b", "c"), ("a", "c"), ("b",)])
        self.assertEqual(patterns(run, (("p", "s"), ("s", "q")), "s"), [(), ("c",)])
        self.assertEqual(patterns(run, (("p", "r"),), "p"), [()])

    def test_errors(self):
        for call, more in ((ahead_of, ()), (patterns, ()), (read_kind, ("one",)), (read_kind, ("none",))):
            for name in ("gone", "none", "one", "f"):
                with self.assertRaises(NoStep) as caught:
                    call(LEAN, (), name, *more)
                self.assertEqual(caught.exception.name, name)
        for name, sheet in (("first", "one"), ("last", "in"), ("last", "end"), ("last", "none")):
            with self.assertRaises(NoSheet) as caught:
                read_kind(LEAN, (), name, sheet)
            self.assertEqual(caught.exception.sheet, sheet)
        self.assertEqual(read_kind(LEAN, (), "last", "two"), "counts")


class Orders(unittest.TestCase):
    def test_drawn(self):
        for runs, _, place, waits in CASES + GREAT:
            run, rows = runs[place], looks.orders(runs[place], waits)
            self.assertEqual(how_many_orders(run, waits), len(rows))
            for number in {0, 1, len(rows) // 2, len(rows) - 1} & set(range(len(rows))):
                self.assertEqual(nth_order(run, waits, number), rows[number])
                self.assertEqual(number_of_order(run, waits, rows[number]), number)
            for number in (len(rows), -1, -len(rows), len(rows) * 10 ** 30):
                with self.assertRaises(NoNumber) as caught:
                    nth_order(run, waits, number)
                self.assertEqual(caught.exception.number, number)

    def test_all_of_them(self):
        for runs, _, place, waits in CASES[:100]:
            run, rows = runs[place], looks.orders(runs[place], waits)
            self.assertEqual([nth_order(run, waits, number) for number in range(len(rows))], rows)
            self.assertEqual([number_of_order(run, waits, row) for row in rows], list(range(len(rows))))
            for row in permutations(names_of(run)):
                self.assertIs(is_order(run, waits, row), row in rows)
                if row not in rows:
                    self.assertRaises(NoOrder, number_of_order, run, waits, row)

    def test_eight_steps(self):
        plan = tuple((name, "m", (), "s" + name, ()) for name in "abcdefgh")
        run = (plan, (), ())
        self.assertEqual(how_many_orders(run, ()), 40320)
        self.assertEqual(nth_order(run, (), 40319), tuple("hgfedcba"))
        self.assertEqual(number_of_order(run, (), tuple("bacdefgh")), 5040)
        self.assertEqual(how_many_orders(run, (("a", "b"), ("c", "d"), ("e", "f"), ("g", "h"))), 2520)
        self.assertEqual(how_many_orders(run, tuple(zip("hgfedcb", "gfedcba"))[::-1]), 1)

    def test_steps_that_do_not_run(self):
        waits = (("gone", "first"), ("last", "gone"))
        self.assertIs(is_order(LEAN, waits, ("last", "first")), True)
        for bad in (("first", "last"), ("last", "gone", "first"), ("last",), ("last", "first", "last"), (), ("last", "last")):
            self.assertIs(is_order(LEAN, waits, bad), False)
            self.assertRaises(NoOrder, number_of_order, LEAN, waits, bad)
        self.assertEqual((nth_order(LEAN, waits, 0), how_many_orders(LEAN, waits)), (("last", "first"), 1))

    def test_things(self):
        for bad in spoiled(("x", "y")) + list(PLAIN):
            self.assertIs(is_order(RUN, (), bad), False)
        empty = (OFF[1:3], (), ())
        self.assertIs(is_order(empty, (), ()), True)
        self.assertEqual((how_many_orders(empty, ()), nth_order(empty, (), 0), number_of_order(empty, (), ())), (1, (), 0))

    def test_left_in(self):
        for runs, _, place, waits in CASES:
            run, rng = runs[place], random.Random(place)
            world = (tuple((mark, rng.randint(0, 2)) for mark in "kmn"),
                     tuple(sorted((method, (one,), rng.randint(0, 2)) for method in "fg" for one in range(3))), 1)
            for row in list(permutations(names_of(run)))[:10]:
                self.assertEqual(left_in(run, row, world), tuple(sorted(looks.left(run, row, world).items())))

    def test_left_in_needs_all_steps(self):
        world = ((), (), 0)
        for bad in ((), ("x",), ("x", "y", "x"), ("x", "x"), ("x", "z"), ("x", "y", "z")):
            self.assertRaises(NoOrder, left_in, RUN, bad, world)
        self.assertEqual(left_in(LEAN, ("last", "first"), world), (("end", 0), ("in", 0), ("one", 0), ("two", 0)))
        self.assertRaises(NoOrder, left_in, LEAN, ("last", "first", "gone"), world)


class ForAll(unittest.TestCase):
    def test_same_and_right(self):
        told = {}
        for runs, seen, place, waits in CASES:
            left = Left(runs, seen, place, waits)
            same, right = left.same(), left.are_right()
            self.assertIs(same_for_all(runs, seen, place, waits), same)
            self.assertIs(right_for_all(runs, seen, place, waits), right)
            told[(same, right)] = told.get((same, right), 0) + 1
            loose = any(kind(runs[place], waits, step[0], sheet) == "loose"
                        for step in looks.working(*runs[place][:2]) for sheet in step[2])
            if len(runs) == 1 and not seen and not loose:
                self.assertIs(same, True)
            if right and not seen and len(runs) == 1:
                self.assertIs(same, True)
        self.assertTrue(all(told.get(pair, 0) > 10 for pair in ((True, True), (True, False), (False, False))), told)

    def test_great(self):
        for runs, seen, place, waits in GREAT:
            left = Left(runs, seen, place, waits)
            self.assertIs(same_for_all(runs, seen, place, waits), left.same())
            self.assertIs(right_for_all(runs, seen, place, waits), left.are_right())

    def test_loose_reads_alone(self):
        """With one RUN and nothing seen all leave the same exactly if no read is loose, but for MARKS that tell it."""
        for runs, _, place, waits in CASES:
            run = runs[place]
            marks = tuple((sheet, "m" + sheet) for sheet, _ in run[2])
            fresh = (run[0], run[1], marks)
            loose = any(kind(fresh, waits, step[0], sheet) == "loose"
                        for step in looks.working(*run[:2]) for sheet in step[2])
            self.assertIs(same_for_all((fresh,), (), 0, waits), not loose)

    def test_again(self):
        told = {}
        for runs, seen, place, waits in CASES:
            again = Left(runs, seen, place, waits, again=True).same()
            self.assertIs(again_for_all(runs, seen, place, waits), again)
            key = (again, same_for_all(runs, seen, place, waits))
            told[key] = told.get(key, 0) + 1
            self.assertTrue(key[1] or not again)
        self.assertTrue(all(told.get(pair, 0) > 10 for pair in ((True, True), (False, True), (False, False))), told)

    def test_seen_of_a_run_beside(self):
        still = ((), (), (("b", "n"),))
        seen = (((0, "b"), (1, "b")),)
        self.assertIs(same_for_all((RUN, still), seen, 0, ()), True)
        self.assertIs(right_for_all((RUN, still), seen, 0, ()), True)
        self.assertIs(again_for_all((RUN, still), seen, 0, ()), True)
        self.assertIs(again_for_all((RUN, still), seen, 0, (("y", "x"),)), True)
        self.assertIs(same_for_all((still, RUN), seen, 1, ()), True)
        self.assertIs(same_for_all((RUN, still), (), 0, ()), False)
        self.assertIs(same_for_all((RUN, still), seen, 1, ()), True)

    def test_same_but_wrong(self):
        early = (("y", "x"),)
        self.assertIs(same_for_all((RUN,), (), 0, early), True)
        self.assertIs(right_for_all((RUN,), (), 0, early), False)
        self.assertIs(again_for_all((RUN,), (), 0, early), False)
        self.assertIs(again_for_all((RUN,), (), 0, (("x", "y"),)), True)

    def test_two_loose_reads_that_come_to_the_same(self):
        plan = (("p", "f", ("s",), "a", ()), ("q", "f", ("s",), "b", ()), ("r", "g", ("a", "b"), "c", ()))
        run = (plan, (), (("a", "m"), ("b", "m"), ("s", "n")))
        seen = (((0, "a"), (1, "z")),)
        still = ((), (), (("z", "m"),))
        self.assertIs(same_for_all((run, still), seen, 0, ()), True)
        self.assertIs(same_for_all((run,), (), 0, ()), False)
        self.assertIs(same_for_all((run,), (), 0, (("p", "r"), ("q", "r"))), True)
        self.assertIs(same_for_all((run,), (), 0, (("p", "r"),)), False)

    def test_two_loose_reads_that_are_right_only_together(self):
        plan = (("p", "f", ("s",), "a", ()), ("q", "f", ("t",), "b", ()), ("r", "g", ("a", "b"), "c", ()))
        run = (plan, (), (("a", "m"), ("b", "n"), ("s", "k"), ("t", "l")))
        beside = (plan[2:], (), (("a", "m"), ("b", "n")))
        seen = (((0, "c"), (1, "c")),)
        for waits in ((), (("p", "q"),), (("q", "p"),)):
            self.assertIs(same_for_all((run, beside), seen, 0, waits), False)
            self.assertIs(right_for_all((run, beside), seen, 0, waits), False)
            self.assertIs(again_for_all((run, beside), seen, 0, waits), False)
        early = (("r", "p"), ("r", "q"))
        self.assertIs(right_for_all((run, beside), seen, 0, early), True)
        self.assertIs(right_for_all((run, beside), (), 0, early), False)
        self.assertIs(again_for_all((run, beside), seen, 0, early), False)

    def test_no_number(self):
        for name in ("same_for_all", "right_for_all", "again_for_all", "other_paper", "wrong_paper"):
            for place in (-1, 1, 10 ** 40):
                with self.assertRaises(NoNumber) as caught:
                    getattr(orders, name)((RUN,), (), place, ())
                self.assertEqual(caught.exception.number, place)
        for name in ("is_other_paper", "is_wrong_paper"):
            for thing in (None, (("x", "y"), ("y", "x"), ((), (), 0), "c")):
                with self.assertRaises(NoNumber) as caught:
                    getattr(orders, name)((RUN,), (), 3, (), thing)
                self.assertEqual(caught.exception.number, 3)


class Papers(unittest.TestCase):
    WORLD = ((("m", 1), ("n", 2)), (("f", (1,), 3), ("g", (2,), 4), ("g", (3,), 5)), 0)

    def test_other_paper(self):
        found = 0
        for runs, seen, place, waits in CASES + GREAT:
            run = runs[place]
            if same_for_all(runs, seen, place, waits):
                self.assertRaises(NoPaper, other_paper, runs, seen, place, waits)
                continue
            paper = other_paper(runs, seen, place, waits)
            one, other, world, sheet = paper
            rows = looks.orders(run, waits)
            self.assertTrue(one in rows and other in rows)
            self.assertTrue(looks.is_world(world) and looks.agrees(world, runs, seen))
            self.assertNotEqual(looks.left(run, one, world)[sheet], looks.left(run, other, world)[sheet])
            self.assertIs(is_other_paper(runs, seen, place, waits, paper), True)
            self.assertEqual(other_paper(runs, seen, place, waits), paper)
            found += 1
        self.assertGreater(found, 50)

    def test_wrong_paper(self):
        found = 0
        for runs, seen, place, waits in CASES + GREAT:
            run = runs[place]
            if right_for_all(runs, seen, place, waits):
                self.assertRaises(NoPaper, wrong_paper, runs, seen, place, waits)
                continue
            paper = wrong_paper(runs, seen, place, waits)
            order, world, sheet = paper
            self.assertIn(order, looks.orders(run, waits))
            self.assertTrue(looks.is_world(world) and looks.agrees(world, runs, seen))
            self.assertNotEqual(looks.left(run, order, world)[sheet], looks.held(world, run, sheet))
            self.assertIs(is_wrong_paper(runs, seen, place, waits, paper), True)
            self.assertEqual(wrong_paper(runs, seen, place, waits), paper)
            found += 1
        self.assertGreater(found, 50)

    def test_judges_over_plain_worlds(self):
        right = 0
        for runs, seen, place, waits in CASES:
            run = runs[place]
            if looks.how_many_plain(runs, 2) > 64:
                continue
            rows = list(permutations(names_of(run)))[:6]
            told = looks.orders(run, waits)
            for world in looks.plain_worlds(runs, 2)[::5]:
                fits = looks.agrees(world, runs, seen)
                for sheet in "abc":
                    held = sheet in looks.held_sheets(run)
                    for one in rows:
                        far = held and looks.left(run, one, world)[sheet] != looks.held(world, run, sheet)
                        wrong = fits and one in told and far
                        self.assertIs(is_wrong_paper(runs, seen, place, waits, (one, world, sheet)), bool(wrong))
                        for other in rows[:3]:
                            far = held and looks.left(run, one, world)[sheet] != looks.left(run, other, world)[sheet]
                            paper = (one, other, world, sheet)
                            expected = fits and one in told and other in told and far
                            self.assertIs(is_other_paper(runs, seen, place, waits, paper), bool(expected))
                            right += bool(expected)
        self.assertGreater(right, 20)

    def test_things(self):
        other, wrong = (("x", "y"), ("y", "x"), self.WORLD, "c"), (("y", "x"), self.WORLD, "c")
        self.assertIs(is_other_paper((RUN,), (), 0, (), other), True)
        self.assertIs(is_wrong_paper((RUN,), (), 0, (), wrong), True)
        for bad in spoiled(other) + list(PLAIN) + [other[:3], (*other, ()), wrong, (other[0], other[0], self.WORLD, "c"),
                                                  (*other[:3], "b"), (*other[:3], "none"), (other[0], ("x",), self.WORLD, "c")]:
            self.assertIs(is_other_paper((RUN,), (), 0, (), bad), False, bad)
        for bad in spoiled(wrong) + list(PLAIN) + [wrong[:2], (*wrong, ()), other, (("x", "y"), self.WORLD, "c"),
                                                  (*wrong[:2], "b"), (*wrong[:2], "none"), (("y",), self.WORLD, "c")]:
            self.assertIs(is_wrong_paper((RUN,), (), 0, (), bad), False, bad)
        great = (self.WORLD[0], tuple(sorted(self.WORLD[1] + tuple(("h", (one, one), 0) for one in range(900)))), 0)
        self.assertIs(is_wrong_paper((RUN,), (), 0, (), (("y", "x"), great, "c")), True)

    def test_waits_and_seen_count(self):
        other, wrong = (("x", "y"), ("y", "x"), self.WORLD, "c"), (("y", "x"), self.WORLD, "c")
        self.assertIs(is_other_paper((RUN,), (), 0, (("x", "y"),), other), False)
        self.assertIs(is_wrong_paper((RUN,), (), 0, (("x", "y"),), wrong), False)
        self.assertIs(is_wrong_paper((RUN,), (), 0, (("y", "x"),), wrong), True)
        still = ((), (), (("b", "n"),))
        seen = (((0, "b"), (1, "b")),)
        self.assertIs(is_other_paper((RUN, still), seen, 0, (), other), False)
        self.assertIs(is_wrong_paper((RUN, still), seen, 0, (), wrong), False)
        self.assertIs(is_wrong_paper((RUN, still), (), 0, (), wrong), True)


class Loosest(unittest.TestCase):
    def wanted(self, run, waits):
        """All pairs that are ahead by waits, by makers, and by both; None if there is a ring."""
        steps = looks.working(run[0], run[1])
        makers = {(one[0], other[0]) for one in steps for other in steps if looks.feeds(one, other)}
        pairs = looks.ahead_pairs((run[0], run[1], ()), tuple(looks.ahead_pairs(run, waits) | makers))
        return None if any(one == other for one, other in pairs) else pairs

    def test_drawn(self):
        rings = 0
        for runs, _, place, waits in CASES + GREAT:
            run = runs[place]
            pairs = self.wanted(run, waits)
            if pairs is None:
                rings += 1
                self.assertRaises(NoOrder, loosest, run, waits)
                continue
            told = loosest(run, waits)
            self.assertEqual(told, tuple(sorted(set(told))))
            self.assertEqual(looks.ahead_pairs(run, told), pairs)
            for pair in told:
                self.assertNotEqual(looks.ahead_pairs(run, tuple(set(told) - {pair})), pairs)
            self.assertIs(is_waits(run, told), True)
            self.assertIs(right_for_all(runs, (), place, told), True)
        self.assertGreater(rings, 20)

    def test_no_further_order(self):
        """Other WAITS that keep waits and are right with nothing seen let no further ORDER."""
        rng = random.Random(104)
        checked = 0
        for runs, _, place, waits in CASES:
            run = runs[place]
            if self.wanted(run, waits) is None:
                continue
            run = (run[0], run[1], tuple((sheet, "m" + sheet) for sheet, _ in run[2]))
            best = set(looks.orders(run, loosest(run, waits)))
            for _ in range(5):
                more = drawn.waits(rng, run, 0.5)
                rows = set(looks.orders(run, more))
                if rows <= set(looks.orders(run, waits)) and right_for_all((run,), (), 0, more):
                    self.assertTrue(rows <= best)
                    checked += 1
        self.assertGreater(checked, 30)

    def test_by_hand(self):
        plan = (("p", "f", ("s",), "a", ()), ("q", "f", ("a",), "b", ()), ("r", "f", ("a", "b", "b"), "c", ()), ("t", "g", (), "d", ()))
        run = (plan, (), (("a", "m"), ("b", "m"), ("s", "m")))
        self.assertEqual(loosest(run, ()), (("p", "q"), ("q", "r")))
        self.assertEqual(loosest(run, (("p", "t"), ("t", "r"))), (("p", "q"), ("p", "t"), ("q", "r"), ("t", "r")))
        self.assertEqual(loosest(run, (("p", "t"), ("t", "q"))), (("p", "t"), ("q", "r"), ("t", "q")))
        for waits in ((("q", "p"),), (("r", "p"),), (("q", "t"), ("t", "p"))):
            self.assertRaises(NoOrder, loosest, run, waits)

    def test_over_steps_that_do_not_run(self):
        self.assertEqual(loosest(LEAN, (("first", "gone"), ("gone", "last"))), (("first", "last"),))
        self.assertEqual(loosest(LEAN, (("first", "gone"),)), (("first", "last"),))
        self.assertRaises(NoOrder, loosest, LEAN, (("idle", "first"), ("last", "idle")))


class Rounds(unittest.TestCase):
    def fewest(self, run, waits, hands):
        """By a look at all ways to put the steps into rounds."""
        names, pairs = names_of(run), looks.ahead_pairs(run, waits)
        states, rounds = {frozenset()}, 0
        while frozenset(names) not in states:
            more = set()
            for done in states:
                ready = [name for name in names if name not in done and all(
                    one in done for one, other in pairs if other == name)]
                for many in range(1, min(hands, len(ready)) + 1):
                    more |= {done | set(some) for some in combinations(ready, many)}
            states, rounds = more, rounds + 1
        return rounds

    def test_drawn(self):
        for runs, _, place, waits in CASES[:120] + GREAT:
            for hands in (1, 2, 3, 9):
                self.assertEqual(fewest_rounds(runs[place], waits, hands), self.fewest(runs[place], waits, hands))

    def named(self, names):
        return tuple((name, "m", (), "s" + name, ()) for name in names), (), ()

    def test_hands(self):
        run = self.named("abcdefgh")
        self.assertEqual([fewest_rounds(run, (), hands) for hands in (1, 2, 3, 7, 8, 10 ** 40)], [8, 4, 3, 2, 1, 1])
        row = tuple(zip("abcdefg", "bcdefgh"))
        self.assertEqual([fewest_rounds(run, row, hands) for hands in (1, 5)], [8, 8])
        self.assertEqual(fewest_rounds((OFF[1:3], (), ()), (), 1), 0)
        self.assertEqual(fewest_rounds(LEAN, (("first", "gone"), ("gone", "last")), 4), 2)
        self.assertEqual(fewest_rounds(RUN, (), 2), 1)

    def test_greedy_is_not_the_best(self):
        run = self.named("abcdefgh")
        waits = (("g", "h"), ("h", "f"))
        self.assertEqual(fewest_rounds(run, waits, 3), 3)
        self.assertEqual(self.fewest(run, waits, 3), 3)
        waits = (("f", "a"), ("g", "a"), ("h", "b"), ("h", "c"))
        self.assertEqual(fewest_rounds(run, waits, 2), 4)
        self.assertEqual(self.fewest(run, waits, 2), 4)
