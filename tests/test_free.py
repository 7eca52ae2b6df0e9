"""free.py: CLASSES of SPOTS, free WORLDS, few numbers."""

import random
import unittest

from reportalike import free
from reportalike.errors import NoPaper, NoSpot
from reportalike.free import (
    alike, alike_among, alike_pairs, alike_to, apart_paper, classes_of, fewest_numbers, few_paper, free_world,
    how_many_classes, is_apart_paper, tells_all,
)
from tests import drawn, looks
from tests.things import PLAIN, spoiled


def case(rng):
    runs = drawn.runs(rng, most=3)
    return runs, drawn.seen(rng, runs), drawn.seen(rng, runs)


CASES = drawn.draws(80, 120, case)
ROW = (("one", "f", ("a",), "b", ()), ("three", "f", ("c",), "d", ()), ("two", "f", ("b",), "c", ()))
RUNS = ((ROW, (), (("a", "m"),)),)
A, B, C, D = [(0, sheet) for sheet in "abcd"]


def pairs_of(row):
    return [(one, other) for at, one in enumerate(row) for other in row[at + 1:]]


def numbers_of(world):
    """The numbers of a WORLD, each once."""
    return {number for _, number in world[0]} | {out for _, _, out in world[1]} | {world[2]}


class Classes(unittest.TestCase):
    def test_drawn(self):
        for runs, seen, _ in CASES:
            table = looks.class_of(runs, seen)
            row = looks.spots(runs)
            numbers = {}
            for spot in row:
                numbers.setdefault(table[spot], len(numbers))
            self.assertEqual(classes_of(runs, seen), tuple((spot, numbers[table[spot]]) for spot in row))
            self.assertEqual(how_many_classes(runs, seen), len(numbers))
            self.assertEqual(alike_pairs(runs, seen), [pair for pair in pairs_of(row) if table[pair[0]] == table[pair[1]]])
            for one in row:
                self.assertEqual(alike_to(runs, seen, one), tuple(spot for spot in row if table[spot] == table[one]))
                for other in row[::3]:
                    self.assertIs(alike(runs, seen, one, other), table[one] == table[other])

    def test_tells_all(self):
        told = 0
        for runs, seen, others in CASES:
            table = looks.class_of(runs, seen)
            for pairs in (others, seen, (), others[:1]):
                expected = all(table[one] == table[other] for one, other in pairs)
                told += not expected
                self.assertIs(tells_all(runs, seen, pairs), expected)
        self.assertGreater(told, 20)

    def test_against_plain_worlds(self):
        checked = 0
        for runs, seen, _ in CASES:
            if looks.how_many_plain(runs, 2) > 300:
                continue
            table = dict(classes_of(runs, seen))
            for world in looks.plain_worlds(runs, 2):
                if looks.agrees(world, runs, seen):
                    held = {spot: looks.at(world, runs, spot) for spot in table}
                    self.assertTrue(all(held[one] == held[other] for one in table for other in table
                                        if table[one] == table[other]))
                    checked += 1
        self.assertGreater(checked, 300)

    def test_methods(self):
        plan = (("a", "f", (), "p", ()), ("b", "f", (), "q", ()), ("c", "f", ("p",), "r", ()), ("d", "f", ("q", "q"), "s", ()),
                ("e", "f", ("q",), "t", ()), ("g", "f", ("p", "q"), "u", ()), ("h", "g", (), "v", ()), ("k", "g", ("p",), "w", ()))
        runs = ((plan, (), ()),)
        lots = sorted({alike_to(runs, (), (0, sheet)) for sheet in "pqrstuvw"})
        self.assertEqual([[sheet for _, sheet in lot] for lot in lots], [["p", "q"], ["r", "t"], ["s", "u"], ["v"], ["w"]])

    def test_order_of_reads(self):
        plan = (("a", "f", ("x", "y"), "p", ()), ("b", "f", ("y", "x"), "q", ()))
        runs = ((plan, (), (("x", "m"), ("y", "n"))), (plan, (), (("x", "n"), ("y", "m"))))
        self.assertEqual(classes_of(runs, ()), (
            ((0, "p"), 0), ((0, "q"), 1), ((0, "x"), 2), ((0, "y"), 3), ((1, "p"), 1), ((1, "q"), 0), ((1, "x"), 3), ((1, "y"), 2)))

    def test_marks_of_made_and_idle_sheets(self):
        plan = (("a", "f", ("x",), "p", ()),)
        runs = ((plan, (), (("p", "m"), ("x", "n"), ("z", "m"))), (plan, (), (("p", "n"), ("x", "k"), ("z", "n"))))
        self.assertEqual(alike_to(runs, (), (0, "z")), ((0, "z"),))
        self.assertEqual(alike_to(runs, (), (1, "z")), ((0, "x"), (1, "z")))
        self.assertEqual(alike_to(runs, (), (0, "p")), ((0, "p"),))
        self.assertEqual(alike_to(runs, (((0, "z"), (1, "p")),), (1, "p")), ((0, "z"), (1, "p")))

    def test_seen_pairs_put_made_sheets_and_marks_together(self):
        self.assertIs(alike(RUNS, ((A, B),), C, D), True)
        self.assertIs(alike(RUNS, ((C, D),), B, C), False)
        self.assertEqual(alike_to(RUNS, ((B, C),), D), (B, C, D))
        self.assertEqual(alike_pairs(RUNS, ((A, D),)), [(A, D)])

    def test_further_runs_change_nothing(self):
        for (runs, seen, _), (more, _, _) in zip(CASES, CASES[1:]):
            short = classes_of(runs, seen)
            self.assertEqual(classes_of((*runs, *more), seen)[:len(short)], short)

    def test_edges(self):
        empty = (((), (), ()),)
        self.assertEqual((classes_of(empty, ()), how_many_classes(empty, ()), alike_pairs(empty, ())), ((), 0, []))
        self.assertEqual(free_world(empty, ())[:2], ((), ()))
        self.assertIs(tells_all(empty, (), ()), True)
        self.assertEqual(how_many_classes(RUNS, ((A, B),)), 1)


class Worlds(unittest.TestCase):
    def test_free_world(self):
        for runs, seen, _ in CASES:
            world, table = free_world(runs, seen), looks.class_of(runs, seen)
            self.assertTrue(looks.is_world(world))
            self.assertTrue(looks.agrees(world, runs, seen))
            held = {spot: looks.at(world, runs, spot) for spot in table}
            for one, other in pairs_of(list(table)):
                self.assertIs(held[one] == held[other], table[one] == table[other])
            self.assertEqual(free_world(runs, seen), world)

    def test_apart_paper(self):
        rng = random.Random(81)
        papers = 0
        for runs, seen, _ in CASES:
            table = looks.class_of(runs, seen)
            if not table:
                continue
            one, other = rng.choice(list(table)), rng.choice(list(table))
            if table[one] == table[other]:
                self.assertRaises(NoPaper, apart_paper, runs, seen, one, other)
                self.assertIs(is_apart_paper(runs, seen, one, other, free_world(runs, seen)), False)
                continue
            world = apart_paper(runs, seen, one, other)
            self.assertTrue(looks.is_world(world) and looks.agrees(world, runs, seen))
            self.assertNotEqual(looks.at(world, runs, one), looks.at(world, runs, other))
            self.assertIs(is_apart_paper(runs, seen, one, other, world), True)
            self.assertEqual(apart_paper(runs, seen, one, other), world)
            for bad in spoiled(world)[::7]:
                self.assertIs(is_apart_paper(runs, seen, one, other, bad), False)
            papers += 1
        self.assertGreater(papers, 25)

    def test_is_apart_paper(self):
        checked = 0
        for runs, seen, _ in CASES:
            if looks.how_many_plain(runs, 2) > 70:
                continue
            for world in looks.plain_worlds(runs, 2):
                for one, other in pairs_of(looks.spots(runs))[:6]:
                    expected = looks.agrees(world, runs, seen) and looks.at(world, runs, one) != looks.at(world, runs, other)
                    self.assertIs(is_apart_paper(runs, seen, one, other, world), expected)
                    checked += 1
        self.assertGreater(checked, 200)

    def test_things_that_are_no_paper(self):
        world = ((("m", 0),), (("f", (0,), 1), ("f", (1,), 2)), 2)
        self.assertIs(is_apart_paper(RUNS, (), A, B, world), True)
        for bad in spoiled(world) + list(PLAIN):
            if bad != ((), (), 0):
                self.assertIs(is_apart_paper(RUNS, (), A, B, bad), False, bad)
        self.assertIs(is_apart_paper(RUNS, (), A, B, ((), (), 0)), False)
        self.assertIs(is_apart_paper(RUNS, (), A, B, ((), (("f", (0,), 1),), 0)), True)
        great = tuple(("g", (one, two), one) for one in range(50) for two in range(50))
        self.assertIs(is_apart_paper(RUNS, (), A, B, (world[0], world[1] + great, 2)), True)


class Few(unittest.TestCase):
    def fewest(self, runs, seen, one, other, most):
        """By a look at all plain WORLDS: how few numbers are enough; None if so many are not."""
        for many in range(2, most + 1):
            for world in looks.plain_worlds(runs, many):
                if looks.at(world, runs, one) != looks.at(world, runs, other) and looks.agrees(world, runs, seen):
                    return many
        return None

    def check(self, runs, seen, one, other, most):
        table = looks.class_of(runs, seen)
        told = fewest_numbers(runs, seen, one, other)
        if table[one] == table[other]:
            self.assertIsNone(told)
            self.assertRaises(NoPaper, few_paper, runs, seen, one, other)
            self.assertTrue(all(alike_among(runs, seen, one, other, many) is True for many in range(1, 7)))
            return
        seeked = self.fewest(runs, seen, one, other, most)
        self.assertEqual(told if told <= most else None, seeked)
        paper = few_paper(runs, seen, one, other)
        self.assertTrue(looks.is_world(paper) and looks.agrees(paper, runs, seen))
        self.assertNotEqual(looks.at(paper, runs, one), looks.at(paper, runs, other))
        self.assertEqual(numbers_of(paper), set(range(told)))
        self.assertEqual(few_paper(runs, seen, one, other), paper)
        for many in range(1, told + 3):
            self.assertIs(alike_among(runs, seen, one, other, many), many < told)

    def test_drawn(self):
        rng = random.Random(82)
        checked = 0
        for runs, seen, _ in CASES:
            table = looks.class_of(runs, seen)
            most = max([many for many in (1, 2, 3) if looks.how_many_plain(runs, many) <= 300], default=1)
            if most > 1 and 1 < len(set(table.values())) <= 8:
                for _ in range(4):
                    self.check(runs, seen, rng.choice(list(table)), rng.choice(list(table)), most)
                checked += 1
        self.assertGreater(checked, 30)

    def test_towers(self):
        for many in range(2, 8):
            plan = tuple((name, "f", ("s" + before,), "s" + name, ()) for before, name in zip("abcdefgh", "bcdefgh"[:many]))
            runs = ((plan, (), (("sa", "m"),)),)
            top, below = (0, "s" + "abcdefgh"[many]), (0, "s" + "abcdefgh"[many - 1])
            self.assertEqual(fewest_numbers(runs, (), below, top), 2)
            two = (0, "s" + "abcdefgh"[many - 2])
            self.assertEqual(fewest_numbers(runs, (), two, top), 2 if many == 2 else 3)
            self.check(runs, (), two, top, 3 if many < 4 else 2)

    def test_worked_out(self):
        ring = ((B, D),)
        self.assertEqual(fewest_numbers(RUNS, ring, A, C), 2)
        self.assertEqual(fewest_numbers(RUNS, ring, B, C), 2)
        self.assertEqual(fewest_numbers(RUNS, ((A, B),), A, D), None)
        plan = (("p", "f", (), "x", ()), ("q", "g", (), "y", ()))
        self.assertEqual(fewest_numbers(((plan, (), ()),), (), (0, "x"), (0, "y")), 2)


class Errors(unittest.TestCase):
    def test_first_no_spot(self):
        bad, worse, worst, last = (0, "x"), (1, "a"), (0, "z"), (5, "b")
        seen = (((0, "a"), worst), (bad, worse))
        two = ("alike", "apart_paper", "fewest_numbers", "few_paper")
        calls = [(name, (seen, bad, worse), worst) for name in two] + [(name, ((), bad, worse), bad) for name in two]
        calls += [(name, ((), A, worse), worse) for name in two] + [(name, (seen,), worst) for name in (
            "classes_of", "how_many_classes", "alike_pairs", "free_world")]
        calls += [("alike_to", (seen, bad), worst), ("alike_to", ((), bad), bad), ("alike_to", ((), (-1, "a")), (-1, "a"))]
        calls += [("alike_among", (seen, bad, worse, 2), worst), ("alike_among", ((), bad, worse, 2), bad)]
        calls += [("alike_among", ((), A, worse, 2), worse), ("tells_all", (seen, ((A, last),)), worst)]
        calls += [("tells_all", ((), ((A, B), (A, last), (bad, worse))), last)]
        for thing in (None, ((), (), 0), "ab"):
            calls += [("is_apart_paper", (seen, bad, worse, thing), worst), ("is_apart_paper", ((), bad, worse, thing), bad)]
            calls += [("is_apart_paper", ((), A, worse, thing), worse)]
        for name, arguments, spot in calls:
            with self.subTest(name=name, arguments=arguments):
                with self.assertRaises(NoSpot) as caught:
                    getattr(free, name)(RUNS, *arguments)
                self.assertEqual(caught.exception.spot, spot)
