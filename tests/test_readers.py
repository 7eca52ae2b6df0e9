"""readers.py: what readers are told by what they have."""

import random
import unittest
from itertools import combinations

from reportalike.errors import NoSpot
from reportalike.free import free_world
from reportalike.readers import (
    bands, can_give, full_gifts, is_told, is_two_worlds, marks_that_matter, told_spots, two_worlds,
)
from reportalike.worlds import is_world
from tests import drawn, looks
from tests.things import PLAIN, spoiled

PLAN = (("p", "f", ("a",), "x", ()), ("q", "g", ("x", "b"), "y", ()), ("r", "k", (), "z", ()))
RUN = (PLAN, (), (("a", "m"), ("b", "n")))
A, B, X, Y, Z = [(0, sheet) for sheet in "abxyz"]


def told(runs, seen, have):
    """The test's own look: the SPOTS of the least set of classes that has those of have and all that STEPS make of it."""
    lead = looks.class_of(runs, seen)
    known = {lead[spot] for spot in have}
    while True:
        more = set(known)
        for place, run in enumerate(runs):
            for step in looks.working(run[0], run[1]):
                if {lead[(place, read)] for read in step[2]} <= known:
                    more.add(lead[(place, step[3])])
        if more == known:
            return tuple(spot for spot in looks.spots(runs) if lead[spot] in known)
        known = more


def is_pair(runs, seen, have, spot, thing):
    """The test's own look at two WORLDS."""
    one, other = thing
    if not looks.is_world(one) or not looks.is_world(other) or one[1:] != other[1:]:
        return False
    first, second = looks.numbers(one, runs), looks.numbers(other, runs)
    if any(table[a] != table[b] for table in (first, second) for a, b in seen):
        return False
    return all(first[own] == second[own] for own in have) and first[spot] != second[spot]


def case(rng):
    runs = drawn.runs(rng, most=rng.choice((1, 2, 2, 3)), dense=rng.random() < 0.6)
    row = looks.spots(runs)
    if not row:
        return case(rng)
    have = tuple(spot for spot in row if rng.random() < rng.choice((0.1, 0.25, 0.4)))
    return runs, drawn.seen(rng, runs), have, rng.choice(row)


def few_spots(rng):
    """Cases of a RUN that reads several SHEETS, mostly secret ones that hang on some of them."""
    while True:
        runs = (drawn.wide_run(rng, 3),) if rng.random() < 0.7 else drawn.runs(rng)
        row, made = looks.spots(runs), looks.made_spots(runs)
        if made and len(row) <= 7:
            have = tuple(spot for spot in row if rng.random() < 0.15)
            return runs, drawn.seen(rng, runs, most=2), have, rng.choice(made)


CASES = drawn.draws(190, 350, case)
FEW = drawn.draws(191, 400, few_spots)


class Told(unittest.TestCase):
    def test_told_spots(self):
        some = none = 0
        for runs, seen, have, spot in CASES:
            expected = told(runs, seen, have)
            self.assertEqual(told_spots(runs, seen, have), expected)
            self.assertIs(is_told(runs, seen, have, spot), spot in expected)
            some, none = some + (spot in expected and spot not in have), none + (spot not in expected)
        self.assertGreater(min(some, none), 60)

    def test_two_worlds(self):
        for runs, seen, have, spot in CASES:
            paper = two_worlds(runs, seen, have, spot)
            if spot in told(runs, seen, have):
                self.assertIsNone(paper)
            else:
                self.assertTrue(is_pair(runs, seen, have, spot, paper))
                self.assertIs(is_two_worlds(runs, seen, have, spot, paper), True)
                self.assertIs(is_two_worlds(runs, seen, have, spot, paper[::-1]), True)
                self.assertEqual(two_worlds(runs, seen, have, spot), paper)

    def test_against_plain_worlds(self):
        """What is told holds the same in all plain WORLDS with the same tables that hold the same at what one has."""
        checked = apart = 0
        for runs in drawn.draws(192, 60, drawn.small_runs):
            for seen in ((), drawn.seen(random.Random(checked), runs, most=2)):
                by_tables = {}
                for world in looks.plain_worlds(runs, 2):
                    if looks.agrees(world, runs, seen):
                        by_tables.setdefault(world[1], []).append(looks.numbers(world, runs))
                for have in looks.subsets(looks.spots(runs))[:40]:
                    sure = told_spots(runs, seen, have)
                    for tables in by_tables.values():
                        for one, other in combinations(tables, 2):
                            if all(one[spot] == other[spot] for spot in have):
                                checked += 1
                                self.assertTrue(all(one[spot] == other[spot] for spot in sure))
                                apart += any(one[spot] != other[spot] for spot in one if spot not in sure)
        self.assertGreater(min(checked, apart), 1000)

    def test_nothing_and_steps_without_reads(self):
        self.assertEqual(told_spots((RUN,), (), ()), (Z,))
        self.assertIs(is_told((RUN,), (), (), Z), True)
        self.assertEqual(told_spots((RUN,), (), (A,)), (A, X, Z))
        self.assertEqual(told_spots((RUN,), (), (B, X)), (B, X, Y, Z))
        self.assertEqual(told_spots((RUN,), ((B, Z),), (A,)), (A, B, X, Y, Z))
        self.assertEqual(told_spots((((), (), ()),), (), ()), ())

    def test_what_is_made_tells_not_what_was_read(self):
        self.assertEqual(told_spots((RUN,), (), (Y,)), (Y, Z))

    def test_classes_told_by_steps_of_other_runs(self):
        other = ((("s", "h", ("c",), "d", ()),), (), (("c", "o"),))
        runs, seen = (RUN, other), ((B, (1, "d")),)
        self.assertEqual(told_spots(runs, seen, ((1, "c"),)), (B, Z, (1, "c"), (1, "d")))
        self.assertEqual(told_spots(runs, seen, (A, (1, "c"))), (A, B, X, Y, Z, (1, "c"), (1, "d")))
        twin = ((("s", "f", ("c",), "d", ()),), (), (("c", "m"),))
        self.assertEqual(told_spots((RUN, twin), (), ((1, "c"),)), (A, X, Z, (1, "c"), (1, "d")))

    def test_steps_that_do_not_run_tell_nothing(self):
        plan = (("p", "f", ("a",), "x", (("u", 1),)),)
        off, on = (plan, (), (("a", "m"), ("x", "k"))), (plan, ("u",), (("a", "m"), ("x", "k")))
        self.assertEqual(told_spots((off,), (), (A,)), (A,))
        self.assertEqual(told_spots((on,), (), (A,)), (A, X))

    def test_seen_pairs_of_made_and_not_made_spots(self):
        seen = ((A, X),)
        self.assertEqual(told_spots((RUN,), seen, (X,)), (A, X, Z))
        self.assertEqual(told_spots((RUN,), ((A, Y),), (X,)), (X, Z))
        self.assertEqual(told_spots((RUN,), ((B, X),), (A,)), (A, B, X, Y, Z))
        self.assertTrue(is_pair((RUN,), ((A, Y),), (X,), A, two_worlds((RUN,), ((A, Y),), (X,), A)))


class Judge(unittest.TestCase):
    def test_worlds_with_the_same_tables_and_the_same_rest(self):
        rows = (("f", (1,), 3), ("f", (2,), 3), ("g", (3, 1), 4), ("g", (3, 2), 5))
        one, other = ((("m", 1), ("n", 1)), rows, 0), ((("m", 2), ("n", 1)), rows, 0)
        self.assertIs(is_two_worlds((RUN,), (), (B, X, Y), A, (one, other)), True)
        self.assertIs(is_two_worlds((RUN,), (), (B, X, Y), B, (one, other)), False)
        self.assertIs(is_two_worlds((RUN,), (), (A,), B, (one, other)), False)
        self.assertIs(is_two_worlds((RUN,), ((A, B),), (X,), A, (one, other)), False)
        for turned in ((other[0], rows[1:], 0), (other[0], rows, 1), (other[0], (*rows, ("h", (), 0)), 0)):
            self.assertIs(is_two_worlds((RUN,), (), (B, X), A, (one, turned)), False)
        for bad in ((one,), (one, other, other), [one, other], (one, list(other)), (one, (other[0], rows[::-1], 0)),
                    (one, (other[0], (rows[0], *rows), 0)), (one, (other[0], rows, True)), ((one[0], rows, False), (other[0], rows, 0)), one):
            self.assertIs(is_two_worlds((RUN,), (), (B, X), A, bad), False)

    def test_all_things(self):
        paper = two_worlds((RUN,), (), (B,), A)
        for thing in [*PLAIN, *spoiled(paper)]:
            self.assertIs(is_two_worlds((RUN,), (), (B,), A, thing), False)
        for thing in (None, paper, 3):
            with self.assertRaises(NoSpot):
                is_two_worlds((RUN,), (), (B,), (0, "c"), thing)
        great = ((("m", 10 ** 60), ("n", 0)), (), 0), ((("m", 5), ("n", 0)), (), 0)
        self.assertIs(is_two_worlds((RUN,), (), (B, X), A, great), True)

    def test_drawn_worlds(self):
        rights = 0
        for runs, seen, have, spot in FEW:
            world = free_world(runs, seen)
            paper = two_worlds(runs, seen, have, spot)
            pairs = [(world, world), (drawn.world(random.Random(5), runs), world)]
            if paper is not None:
                moved = tuple((mark, number + 1) for mark, number in paper[0][0])
                pairs.extend([(paper[0], world), ((moved, *paper[0][1:]), paper[1]), (paper[0], (moved, *paper[0][1:])), paper])
            for pair in pairs:
                expected = is_pair(runs, seen, have, spot, pair)
                self.assertIs(is_two_worlds(runs, seen, have, spot, pair), expected)
                rights += expected
        self.assertGreater(rights, 40)


class Marks(unittest.TestCase):
    def matters(self, runs, seen, spot, mark):
        """The test's own look: what stands at the SPOTS that nobody makes is had, but for the class of this MARK."""
        lead = looks.class_of(runs, seen)
        bare = [one for one in looks.spots(runs) if looks.maker_of(runs[one[0]], one[1]) is None]
        loose = {lead[one] for one in bare if dict(runs[one[0]][2])[one[1]] == mark}
        have = tuple(one for one in bare if lead[one] not in loose)
        return bool(loose) and spot not in told(runs, seen, have)

    def test_marks_that_matter(self):
        many = 0
        for runs, seen, _, spot in CASES:
            marks = sorted({mark for run in runs for _, mark in run[2]})
            expected = tuple(mark for mark in marks if self.matters(runs, seen, spot, mark))
            self.assertEqual(marks_that_matter(runs, seen, spot), expected)
            many += len(expected)
        self.assertGreater(many, 200)

    def test_marks_against_plain_worlds(self):
        """A MARK that makes it hold unlike numbers in two plain WORLDS with the same tables does matter."""
        found = 0
        for runs in drawn.draws(193, 50, drawn.small_runs):
            seen = drawn.seen(random.Random(found), runs, most=1)
            lead = looks.class_of(runs, seen)
            bare = {one: dict(runs[one[0]][2])[one[1]] for one in looks.spots(runs) if looks.maker_of(runs[one[0]], one[1]) is None}
            by_tables = {}
            for world in looks.plain_worlds(runs, 2):
                if looks.agrees(world, runs, seen):
                    by_tables.setdefault(world[1], []).append(looks.numbers(world, runs))
            for mark in sorted(set(bare.values())):
                loose = {lead[one] for one in bare if bare[one] == mark}
                fixed = [one for one in bare if lead[one] not in loose]
                for tables in by_tables.values():
                    for one, other in combinations(tables, 2):
                        if all(one[spot] == other[spot] for spot in fixed):
                            for spot in one:
                                if one[spot] != other[spot]:
                                    found += 1
                                    self.assertIn(mark, marks_that_matter(runs, seen, spot))
        self.assertGreater(found, 300)

    def test_one_mark_in_several_runs(self):
        other = ((("s", "h", ("c",), "d", ()),), (), (("c", "m"),))
        self.assertEqual(marks_that_matter((RUN, other), (), (1, "d")), ("m",))
        self.assertEqual(marks_that_matter((RUN, other), (), Y), ("m", "n"))
        self.assertEqual(marks_that_matter((RUN, other), (), X), ("m",))

    def test_two_marks_in_one_class(self):
        self.assertEqual(marks_that_matter((RUN,), ((A, B),), X), ("m", "n"))
        self.assertEqual(marks_that_matter((RUN,), ((A, B),), A), ("m", "n"))
        self.assertEqual(marks_that_matter((RUN,), (), A), ("m",))
        # y makes what b holds: so that is told by what stays.
        self.assertEqual(marks_that_matter((RUN,), ((B, Z),), B), ())

    def test_counts_of_a_made_sheet_are_no_spot_of_that_mark(self):
        run = (PLAN, (), (("a", "m"), ("b", "n"), ("x", "o"), ("z", "m")))
        self.assertEqual(marks_that_matter((run,), (), Y), ("m", "n"))
        self.assertEqual(marks_that_matter((run,), (), X), ("m",))
        self.assertEqual(marks_that_matter((run,), (), Z), ())


class Gifts(unittest.TestCase):
    def test_can_give(self):
        yes = 0
        for runs, seen, have, spot in CASES:
            row = looks.spots(runs)
            for secret in (row[-1:], row[:1], row[::3], ()):
                expected = not set(secret) & set(told(runs, seen, (*have, spot)))
                self.assertIs(can_give(runs, seen, have, tuple(secret), spot), expected)
                yes += expected and bool(secret)
        self.assertGreater(yes, 100)

    def test_a_secret_that_is_told_already(self):
        self.assertIs(can_give((RUN,), (), (A,), (X,), B), False)
        self.assertEqual(full_gifts((RUN,), (), (A,), (X,)), [])
        self.assertIs(can_give((RUN,), (), (), (Z,), B), False)
        self.assertEqual(full_gifts((RUN,), (), (), (Z,)), [])

    def test_no_secret(self):
        self.assertIs(can_give((RUN,), (), (A,), (), B), True)
        self.assertEqual(full_gifts((RUN,), (), (A,), ()), [(A, B, X, Y, Z)])

    def test_full_gifts_against_all_sets(self):
        several = 0
        for runs, seen, have, spot in FEW:
            for secret in ((spot,), tuple(looks.spots(runs)[::2])):
                fitting = [some for some in looks.subsets(looks.spots(runs))
                           if set(have) <= set(some) and not set(secret) & set(told(runs, seen, some))]
                expected = [some for some in fitting if not any(set(some) < set(more) for more in fitting)]
                self.assertEqual(full_gifts(runs, seen, have, secret), expected)
                several += len(expected) > 1
        self.assertGreater(several, 30)

    def test_bands_against_all_sets(self):
        some = empty = 0
        for at, (runs, seen, have, spot) in enumerate(CASES):
            row = looks.spots(runs)
            haves = ((have[:2], have[2:], tuple(row[at % 3::3])), (have, have), ((),), (tuple(row[::2]), tuple(row[1::2]), have[1:], have[:1]))[at % 4]

            def tells(band):
                return spot in told(runs, seen, [one for reader in band for one in haves[reader]])

            expected = [band for band in looks.subsets(range(len(haves)))
                        if tells(band) and not any(tells([one for one in band if one != left]) for left in band)]
            self.assertEqual(bands(runs, seen, haves, spot), expected)
            some, empty = some + (len(expected) > 1), empty + (expected == [()])
        self.assertGreater(min(some, empty), 20)

    def test_bands_by_hand(self):
        self.assertEqual(bands((RUN,), (), ((A,), (B,), (X,)), Y), [(0, 1), (1, 2)])
        self.assertEqual(bands((RUN,), (), ((A,), (B,)), Z), [()])
        self.assertEqual(bands((RUN,), (), ((A,),), Y), [])
        self.assertEqual(bands((RUN,), (), ((A,), (B,), (Y,)), Y), [(0, 1), (2,)])
        self.assertEqual(bands((RUN,), (), ((A, B), (B, X), (), (Y,)), Y), [(0,), (1,), (3,)])


class Errors(unittest.TestCase):
    def first(self, spot, function, *arguments):
        with self.assertRaises(NoSpot) as caught:
            function((RUN,), *arguments)
        self.assertEqual(caught.exception.spot, spot)
        self.assertIsInstance(caught.exception, LookupError)

    def test_which_one_comes_first(self):
        seen, more = (((0, "r"), (0, "s")),), (((0, "a"), (0, "b")), ((0, "b"), (1, "b")))
        have, spot, secret = ((0, "t"), (1, "a")), (0, "u"), ((0, "v"),)
        for function in (is_told, two_worlds):
            self.first((0, "r"), function, seen, have, spot)
            self.first((1, "b"), function, more, have, spot)
            self.first((0, "t"), function, (), have, spot)
            self.first((1, "a"), function, (), (A, (1, "a")), spot)
            self.first((0, "u"), function, (), (A,), spot)
            self.first((0, "u"), function, (), (), spot)
        self.first((0, "r"), is_two_worlds, seen, have, spot, None)
        self.first((0, "t"), is_two_worlds, (), have, spot, None)
        self.first((0, "u"), is_two_worlds, (), (A,), spot, ((), ()))
        self.first((0, "r"), told_spots, seen, have)
        self.first((0, "t"), told_spots, (), have)
        self.first((0, "r"), marks_that_matter, seen, spot)
        self.first((0, "u"), marks_that_matter, (), spot)
        self.first((0, "r"), can_give, seen, have, secret, spot)
        self.first((0, "t"), can_give, (), have, secret, spot)
        self.first((0, "v"), can_give, (), (), secret, spot)
        self.first((0, "u"), can_give, (), (), (), spot)
        self.first((0, "r"), full_gifts, seen, have, secret)
        self.first((0, "t"), full_gifts, (), have, secret)
        self.first((0, "v"), full_gifts, (), (), secret)
        self.first((0, "r"), bands, seen, (have, secret), spot)
        self.first((0, "v"), bands, (), ((A,), secret, have), spot)
        self.first((1, "a"), bands, (), ((), (A, (1, "a"))), spot)
        self.first((0, "u"), bands, (), ((A,),), spot)

    def test_errors_keep_tuples(self):
        self.first((0, "t"), is_told, [], [[0, "t"]], [0, "u"])
        self.first((0, "u"), bands, [], [[[0, "a"]]], [0, "u"])

    def test_worlds_have_the_form(self):
        for world in two_worlds([[[list(step) for step in PLAN], [], [["a", "m"], ["b", "n"]]]], [], [[0, "b"]], [0, "a"]):
            self.assertIs(is_world(world), True)


if __name__ == "__main__":
    unittest.main()
