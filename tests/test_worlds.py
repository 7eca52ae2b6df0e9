"""worlds.py: WORLDS, and what SHEETS hold in them."""

import random
import unittest

from reportalike.errors import NoNumber, NoSpot
from reportalike.worlds import (
    agrees, asked_of, cut_world, first_broken, held_at, held_by, held_in, how_many_worlds, is_world, nth_world,
    same_in_all, same_spots, told_by,
)
from tests import drawn, looks
from tests.things import PLAIN, spoiled

WORLD = ((("m", 0), ("n", -3)), (("f", (), 4), ("f", (0,), 1), ("f", (0, 0), 2), ("f", (1,), 0), ("g", (2,), 10 ** 40)), 5)
ROW = (("p", "f", ("a",), "x", ()), ("q", "f", ("x", "x"), "y", ()), ("s", "f", (), "z", (("u", 1),)))
RUN = (ROW, (), (("a", "m"), ("b", "n"), ("y", "k")))
CASES = drawn.draws(70, 60, lambda rng: (drawn.runs(rng, most=3), rng.random()))


def world_for(runs, chance):
    """A WORLD with some of what the RUNS ask for, and more."""
    rng = random.Random(chance)
    contents = tuple((mark, rng.randint(-1, 1)) for mark in "kmn" if rng.random() < 0.7)
    inputs = [(), (0,), (1,), (-1,), (0, 0), (0, 1), (1, 0), (1, 1), (0, 0, 0), (0, 1, -1)]
    rows = sorted((method, ins) for method in "fg" for ins in inputs)
    tables = tuple((method, ins, rng.randint(-1, 1)) for method, ins in rows if rng.random() < 0.6)
    return contents, tables, rng.randint(-1, 1)


def drawn_seen(runs, chance):
    return drawn.seen(random.Random(chance), runs)


class Judge(unittest.TestCase):
    def test_right(self):
        great = tuple(("f", (one, other), one) for one in range(40) for other in range(40))
        for good in (WORLD, ((), (), -1), ((("m", 10 ** 60),), (), 0), ((), great, 0), ((), (("f", (0,) * 30, 0),), 0)):
            self.assertIs(is_world(good), True)

    def test_wrong(self):
        contents, tables, rest = WORLD
        for bad in ((contents, tables), (*WORLD, 0), (contents[::-1], tables, rest), (contents, tables[::-1], rest),
                    (contents + contents, tables, rest), (((("m", 0), ("m", 1))), tables, rest), ((("m",),), (), 0),
                    (contents, (("f", (0,), 1), ("f", (0,), 1)), rest), (contents, (("f", (0,), 1), ("f", (0,), 2)), rest),
                    (contents, (("f", (0,), 2), ("f", (0,), 1)), rest), (contents, (("f", 0, 1),), rest),
                    (contents, (("f", (1,), 0), ("f", (0, 5), 0)), rest), (contents, (("f", (0,)),), rest),
                    (contents, (("f", (0,), 1, 1),), rest), ((("m", 0, 0),), (), 0), ((("m", 0), "ab"), (), 0)):
            self.assertIs(is_world(bad), False, bad)
        for bad in spoiled(WORLD):
            self.assertIs(is_world(bad), False, bad)

    def test_plain_things(self):
        for thing in PLAIN:
            self.assertIs(is_world(thing), repr(thing) == "((), (), 0)", thing)


class Held(unittest.TestCase):
    def test_told_and_held_by(self):
        for method, ins, out in (("f", (), 4), ("f", (0,), 1), ("f", (0, 0), 2), ("f", (1,), 0), ("f", (2,), 5), ("g", (), 5),
                                 ("g", (2,), 10 ** 40), ("h", (2,), 5), ("f", (0, 0, 0), 5)):
            self.assertEqual(told_by(WORLD, method, ins), out)
        self.assertEqual([held_by(WORLD, mark) for mark in ("m", "n", "k", "f")], [0, -3, 5, 5])

    def test_held_in(self):
        self.assertEqual(held_in(WORLD, RUN), (("a", 0), ("b", -3), ("x", 1), ("y", 5)))
        self.assertEqual(held_in(WORLD, (ROW, ("u",), RUN[2]))[-1], ("z", 4))
        self.assertEqual(held_in(WORLD, ((), (), ())), ())

    def test_drawn(self):
        for runs, chance in CASES:
            world, seen = world_for(runs, chance), drawn_seen(runs, chance)
            numbers = {spot: looks.at(world, runs, spot) for spot in looks.spots(runs)}
            for place, run in enumerate(runs):
                self.assertEqual(held_in(world, run), tuple(
                    (sheet, numbers[(place, sheet)]) for sheet in looks.held_sheets(run)))
            for spot in numbers:
                self.assertEqual(held_at(world, runs, spot), numbers[spot])
            broken = [pair for pair in seen if numbers[pair[0]] != numbers[pair[1]]]
            self.assertIs(agrees(world, runs, seen), not broken)
            self.assertEqual(first_broken(world, runs, seen), broken[0] if broken else None)
            lots = sorted(tuple(spot for spot in numbers if numbers[spot] == worth) for worth in set(numbers.values()))
            self.assertEqual(same_spots(world, runs), tuple(lots))

    def test_held_at_no_spot(self):
        for spot in ((0, "z"), (0, "none"), (1, "a"), (-1, "a"), (10 ** 40, "a")):
            with self.assertRaises(NoSpot) as caught:
                held_at(WORLD, (RUN,), spot)
            self.assertEqual(caught.exception.spot, spot)
        with self.assertRaises(NoSpot) as caught:
            held_at(WORLD, (RUN,), [0, "z"])
        self.assertEqual(caught.exception.spot, (0, "z"))

    def test_agrees_no_spot(self):
        a, b, y, bad, worse = (0, "a"), (0, "b"), (0, "y"), (0, "c"), (7, "a")
        for seen, spot in ((((a, b), (a, bad)), bad), (((bad, worse),), bad), (((a, worse), (bad, b)), worse),
                           (((bad, y), (b, worse)), bad), ((((-1, "a"), a),), (-1, "a"))):
            for judge in (agrees, first_broken):
                with self.assertRaises(NoSpot) as caught:
                    judge(WORLD, (RUN,), seen)
                self.assertEqual(caught.exception.spot, spot)


class Cut(unittest.TestCase):
    def asked(self, world, runs):
        return tuple(sorted({(step[1], tuple(looks.held(world, run, read) for read in step[2]))
                             for run in runs for step in looks.working(run[0], run[1])}))

    def test_drawn(self):
        for runs, chance in CASES:
            world = world_for(runs, chance)
            asked = self.asked(world, runs)
            self.assertEqual(asked_of(world, runs), asked)
            marks = sorted({mark for run in runs for _, mark in run[2]})
            cut = (tuple((mark, looks.held_mark(world, mark)) for mark in marks),
                   tuple((method, ins, looks.told(world, method, ins)) for method, ins in asked), world[2])
            self.assertEqual(cut_world(world, runs), cut)
            for run in runs:
                self.assertEqual(held_in(cut, run), held_in(world, run))

    def test_edges(self):
        self.assertEqual(asked_of(WORLD, (RUN,)), (("f", (0,)), ("f", (1, 1))))
        self.assertEqual(cut_world(WORLD, (RUN,)), (
            (("k", 5), ("m", 0), ("n", -3)), (("f", (0,), 1), ("f", (1, 1), 5)), 5))
        self.assertEqual(cut_world(WORLD, (((), (), ()),)), ((), (), 5))
        self.assertEqual(asked_of(WORLD, ((ROW, ("u",), RUN[2]), RUN)), (("f", ()), ("f", (0,)), ("f", (1, 1))))


class Plain(unittest.TestCase):
    SMALL = (
        (((), (), ()),),
        (((), (), (("a", "m"), ("b", "n"), ("c", "m"))),),
        (((("p", "f", (), "x", ()),), (), ()),),
        (((("p", "f", ("a",), "x", ()), ("q", "f", ("a", "x"), "y", ())), (), (("a", "m"),)),),
        (((("p", "f", (), "x", ()), ("q", "f", ("x", "x"), "y", ()), ("s", "g", ("y",), "z", ())), (), ()),),
        (((("p", "f", ("a",), "x", (("u", 1),)), ("q", "g", ("b",), "y", ())), (), (("b", "n"),)),
         ((("p", "f", ("a",), "x", ()),), (), (("a", "m"), ("x", "k")))),
    )

    def test_all_of_them(self):
        for runs in self.SMALL:
            for many in (1, 2, 3, 4):
                count = looks.how_many_plain(runs, many)
                self.assertEqual(how_many_worlds(runs, many), count)
                if count <= 600:
                    worlds = looks.plain_worlds(runs, many)
                    self.assertEqual([nth_world(runs, many, number) for number in range(count)], worlds)
                    self.assertEqual(worlds, sorted(worlds))
                for number in (count, -1, count + 5, -count, 10 ** 40 * count):
                    with self.assertRaises(NoNumber) as caught:
                        nth_world(runs, many, number)
                    self.assertEqual(caught.exception.number, number)

    def test_first_and_last(self):
        plan = tuple((name, name, ("a", "b", "c"), "s" + name, ()) for name in "pqrstuvw")
        runs = ((plan, (), (("a", "m"), ("b", "n"), ("c", "k"))),)
        count = how_many_worlds(runs, 4)
        self.assertEqual(count, 4 ** (3 + 8 * 64))
        first, last = nth_world(runs, 4, 0), nth_world(runs, 4, count - 1)
        self.assertEqual({row[2] for row in first[1]} | {pair[1] for pair in first[0]}, {0})
        self.assertEqual({row[2] for row in last[1]} | {pair[1] for pair in last[0]}, {3})
        self.assertEqual((len(last[1]), last[1][0], last[1][-1]), (512, ("p", (0, 0, 0), 3), ("w", (3, 3, 3), 3)))
        self.assertEqual(nth_world(runs, 4, 1)[1][-1][2], 1)
        self.assertEqual(nth_world(runs, 4, 4 ** 514)[0], (("k", 1), ("m", 0), ("n", 0)))

    def test_same_in_all(self):
        rng = random.Random(71)
        checked = 0
        for runs, chance in CASES:
            row = looks.spots(runs)
            if not row:
                continue
            for many in (1, 2, 3):
                if how_many_worlds(runs, many) > 600:
                    continue
                seen, one, other = drawn_seen(runs, chance), rng.choice(row), rng.choice(row)
                worlds = [world for world in looks.plain_worlds(runs, many) if looks.agrees(world, runs, seen)]
                expected = all(looks.at(world, runs, one) == looks.at(world, runs, other) for world in worlds)
                self.assertIs(same_in_all(runs, seen, one, other, many), expected)
                checked += 1
        self.assertGreater(checked, 40)

    def test_same_in_all_edges(self):
        runs = self.SMALL[2]
        self.assertIs(same_in_all(runs, (), (0, "x"), (0, "x"), 4), True)
        runs = self.SMALL[1]
        a, b, c = (0, "a"), (0, "b"), (0, "c")
        self.assertIs(same_in_all(runs, (), a, b, 1), True)
        self.assertIs(same_in_all(runs, (), a, b, 2), False)
        self.assertIs(same_in_all(runs, (), a, c, 2), True)
        self.assertIs(same_in_all(runs, ((a, b),), c, b, 3), True)

    def test_same_in_all_errors(self):
        runs = self.SMALL[1]
        a, bad, worse, worst = (0, "a"), (0, "x"), (1, "a"), (0, "z")
        for seen, one, other, spot in (
                (((worst, worse),), bad, worse, bad), (((worst, worse),), a, worse, worse), (((worst, worse),), a, a, worst),
                (((a, worse),), a, a, worse), ((), a, (-1, "a"), (-1, "a"))):
            with self.assertRaises(NoSpot) as caught:
                same_in_all(runs, seen, one, other, 2)
            self.assertEqual(caught.exception.spot, spot)
