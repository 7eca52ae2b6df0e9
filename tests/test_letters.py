"""letters.py: MIXES, and letters that come late."""

import random
import unittest
from itertools import combinations, permutations, product

from reportalike import letters as module
from reportalike.errors import NoSpot
from reportalike.letters import (
    bad_mix, bad_order, fewest_kept, is_bad_order, is_mix, last_ones, may_stand, right_by, turned_away,
)
from tests import drawn, looks
from tests.things import PLAIN, spoiled

PLAN = (("one", "f", ("x", "y"), "t", ()), ("two", "g", ("z",), "u", ()))
COUNTS = [(("q", "o"), ("x", x), ("y", y), ("z", "z")) for x, y in (("n", "k"), ("m", "l"), ("m", "k"))]
RUNS = tuple((PLAN, (), counts) for counts in COUNTS)
SEEN = (((0, "t"), (2, "t")), ((1, "t"), (2, "t")))
HAVE = ((2, "x"), (2, "y"), (2, "z"))
LETTERS = ((0, "x"), (1, "y"))


def needs(runs):
    return looks.needed(runs[-1][0], runs[-1][1])


def case(rng):
    """RUNS of nearly one PLAN, SEEN, what the branch has, letters, and a SHEET."""
    while True:
        first = drawn.wide_run(rng, 3, marks="mn")
        runs = [first]
        for _ in range(rng.randint(1, 3)):
            runs.append(drawn.changed_run(rng, runs[-1], marks="mn") if rng.random() < 0.3 else
                        (*first[:2], tuple((sheet, rng.choice("mnk")) for sheet, _ in first[2])))
        runs = tuple(runs)
        wanted = needs(runs)
        lots = [[spot for spot in looks.spots(runs) if spot[1] == sheet] for sheet in wanted]
        if not wanted:
            continue
        late = len(runs) - 1
        have = tuple((late, sheet) if rng.random() < 0.6 else rng.choice(lot) for sheet, lot in zip(wanted, lots))
        sent = tuple(rng.choice(rng.choice(lots)) for _ in range(rng.randint(0, 5)))
        seen = drawn.seen(rng, runs, most=2)
        if rng.random() < 0.5:
            made = [spot for spot in looks.made_spots(runs) if spot[0] == late]
            seen = tuple(sorted({*seen, *[(spot, one) if spot < one else (one, spot) for one in made for spot in looks.made_spots(runs)
                                          if spot[1] == one[1] and spot != one and rng.random() < 0.6]}))
        return runs, seen, have, sent, rng.choice(looks.held_sheets(runs[-1]))


CASES = drawn.draws(180, 260, case)


def right(runs, seen, mix, sheet):
    """The test's own doing anew: by a RUN more, whose MARKS were seen to hold what the SPOTS of the MIX do."""
    plan, variant, counts = runs[-1]
    table = dict(zip(needs(runs), mix))
    more = (plan, variant, tuple((name, "new" + name if name in table else mark) for name, mark in counts))
    place, pairs = len(runs), [(spot, (len(runs), name)) for name, spot in table.items()]
    lead = looks.class_of((*runs, more), (*seen, *pairs))
    return lead[(place, sheet)] == lead[(place - 1, sheet)]


def stand(have, sent):
    return [sorted({own, *[spot for spot in sent if spot[1] == own[1]]}) for own in have]


def bad_mixes(runs, seen, have, sent, sheet):
    return [mix for mix in product(*stand(have, sent)) if not right(runs, seen, mix, sheet)]


def after(have, sent, order):
    """What is there when the letters came in this order."""
    now = {own[1]: own for own in have}
    for place in order:
        now[sent[place][1]] = sent[place]
    return tuple(now[own[1]] for own in have)


def lets(kept, order):
    return all(order.index(near) < order.index(far) for near, far in kept)


def all_pairs(sent):
    return [(near, far) for near, far in combinations(range(len(sent)), 2) if sent[near][1] == sent[far][1]]


class Mixes(unittest.TestCase):
    def test_is_mix(self):
        for good in (HAVE, ((0, "x"), (1, "y"), (2, "z"))):
            self.assertIs(is_mix(RUNS, good), True)
        for bad in (HAVE[:2], (*HAVE, (2, "q")), HAVE[::-1], ((3, "x"), *HAVE[1:]), ((-1, "x"), *HAVE[1:]), ((2, "q"), *HAVE[1:]), list(HAVE),
                    ([2, "x"], *HAVE[1:]), ((True, "x"), *HAVE[1:]), ((0, "t"), *HAVE[1:]), (None, *HAVE[1:]), ()):
            self.assertIs(is_mix(RUNS, bad), False, bad)
        for bad in spoiled(HAVE):
            self.assertIs(is_mix(RUNS, bad), False, bad)
        for thing in PLAIN:
            self.assertIs(is_mix(RUNS, thing), False, thing)
            self.assertIs(is_mix((((), (), ()),), thing), repr(thing) == "()", thing)
        for runs, _, have, _, _ in CASES:
            self.assertIs(is_mix(runs, have), True)

    def test_a_spot_that_another_run_makes(self):
        runs = ((PLAN, (), COUNTS[0]), ((("p", "h", ("t",), "s", ()),), (), (("t", "m"),)))
        self.assertIs(is_mix(runs, ((0, "t"),)), True)
        self.assertIs(right_by(runs, (), ((0, "t"),), "s"), False)
        self.assertIs(right_by(runs, (((0, "t"), (1, "t")),), ((0, "t"),), "s"), True)

    def test_right_by(self):
        rights = wrongs = 0
        for runs, seen, have, sent, sheet in CASES:
            for mix in [have, *list(product(*stand(have, sent)))[:6]]:
                expected = right(runs, seen, mix, sheet)
                self.assertIs(right_by(runs, seen, mix, sheet), expected)
                rights, wrongs = rights + expected, wrongs + (not expected)
        self.assertGreater(min(rights, wrongs), 100)

    def test_right_by_against_plain_worlds(self):
        rng, checked = random.Random(181), 0
        for runs, seen in drawn.draws(182, 150, lambda rng: self.small(rng)):
            if not looks.held_sheets(runs[-1]):
                continue
            wanted = needs(runs)
            mix = tuple(rng.choice([spot for spot in looks.spots(runs) if spot[1] == sheet]) for sheet in wanted)
            sheet = rng.choice(looks.held_sheets(runs[-1]))
            if right_by(runs, seen, mix, sheet):
                for world in looks.plain_worlds(runs, 2):
                    if looks.agrees(world, runs, seen):
                        now = {name: looks.at(world, runs, spot) for name, spot in zip(wanted, mix)}
                        self.assertEqual(self.anew(world, runs[-1], now, sheet), looks.held(world, runs[-1], sheet))
                        checked += 1
        self.assertGreater(checked, 300)

    def small(self, rng):
        runs = drawn.small_runs(rng)
        return runs, drawn.seen(rng, runs)

    def anew(self, world, run, now, sheet):
        step = looks.maker_of(run, sheet)
        if step is None:
            return now[sheet] if sheet in now else looks.held(world, run, sheet)
        return looks.told(world, step[1], tuple(self.anew(world, run, now, read) for read in step[2]))

    def test_right_by_hand(self):
        self.assertIs(right_by(RUNS, (), HAVE, "t"), True)
        self.assertIs(right_by(RUNS, (), ((1, "x"), *HAVE[1:]), "t"), True)
        self.assertIs(right_by(RUNS, (), ((0, "x"), *HAVE[1:]), "t"), False)
        self.assertIs(right_by(RUNS, (), ((0, "x"), *HAVE[1:]), "u"), True)
        self.assertIs(right_by(RUNS, (), ((0, "x"), *HAVE[1:]), "x"), False)
        self.assertIs(right_by(RUNS, (), ((0, "x"), *HAVE[1:]), "q"), True)
        self.assertIs(right_by(RUNS, SEEN, ((0, "x"), *HAVE[1:]), "t"), True)
        self.assertIs(right_by(RUNS, SEEN, ((2, "x"), (1, "y"), (0, "z")), "t"), True)
        self.assertIs(right_by(RUNS, SEEN, ((0, "x"), (1, "y"), (2, "z")), "t"), False)


class WhateverComes(unittest.TestCase):
    def test_drawn(self):
        found = away = none = several = 0
        for runs, seen, have, sent, sheet in CASES:
            self.assertEqual(may_stand(runs, have, sent), tuple(tuple(lot) for lot in stand(have, sent)))
            bad = bad_mixes(runs, seen, have, sent, sheet)
            self.assertEqual(bad_mix(runs, seen, have, sent, sheet), min(bad, default=None))
            found += len(bad) > 0
            told = turned_away(runs, seen, have, sent, sheet)
            own = None
            for places in sorted(looks.subsets(range(len(sent))), key=lambda row: (len(row), row)):
                rest = [spot for place, spot in enumerate(sent) if place not in places]
                if own is None and not bad_mixes(runs, seen, have, rest, sheet):
                    own = places
            self.assertEqual(told, own)
            away, none, several = away + (own not in (None, ())), none + (own is None), several + (own is not None and len(own) > 1)
        self.assertGreater(min(found, away, none), 25)
        self.assertGreater(several, 8)

    def test_may_stand_by_all_comings(self):
        for runs, _, have, sent, _ in CASES[:60]:
            if len(sent) < 4:
                ends = {after(have, sent, row) for many in range(4) for row in product(range(len(sent)), repeat=many)}
                self.assertEqual(set(product(*may_stand(runs, have, sent))), ends)

    def test_each_alone_does_no_harm_but_two_do(self):
        self.assertEqual([bad_mix(RUNS, SEEN, HAVE, some, "t") for some in (LETTERS[:1], LETTERS[1:], LETTERS)], [
            None, None, ((0, "x"), (1, "y"), (2, "z"))])
        self.assertEqual(turned_away(RUNS, SEEN, HAVE, LETTERS, "t"), (0,))
        self.assertEqual(turned_away(RUNS, SEEN, HAVE, LETTERS[::-1], "t"), (0,))
        self.assertEqual(turned_away(RUNS, SEEN, HAVE, (*LETTERS, (0, "x"), (0, "z")), "t"), (1,))
        self.assertEqual(turned_away(RUNS, (), HAVE, (*LETTERS, (2, "x"), (0, "z")), "t"), (0, 1))

    def test_without_seen_each_alone_is_enough(self):
        for runs, _, have, sent, sheet in CASES:
            alone = right(runs, (), have, sheet) and all(right(runs, (), after(have, sent, (place,)), sheet) for place in range(len(sent)))
            self.assertIs(bad_mix(runs, (), have, sent, sheet) is None, alone)

    def test_edges(self):
        self.assertEqual(may_stand(RUNS, HAVE, ()), (((2, "x"),), ((2, "y"),), ((2, "z"),)))
        self.assertEqual(may_stand(RUNS, HAVE, ((0, "x"), (0, "x"), (2, "x")))[0], ((0, "x"), (2, "x")))
        self.assertIsNone(bad_mix(RUNS, (), HAVE, (), "t"))
        self.assertEqual(turned_away(RUNS, (), HAVE, (), "t"), ())
        wrong = ((0, "x"), *HAVE[1:])
        self.assertEqual(bad_mix(RUNS, (), wrong, (), "t"), wrong)
        self.assertIsNone(turned_away(RUNS, (), wrong, ((2, "x"),), "t"))
        self.assertEqual(bad_mix(RUNS, (), wrong, ((2, "x"),), "t"), wrong)
        # Letters beyond those that matter.
        self.assertIsNone(bad_mix(RUNS, (), HAVE, ((0, "x"), (1, "y")), "u"))
        alone = ((("p", "f", (), "t", ()),), (), (("q", "o"),))
        self.assertEqual(may_stand((alone,), (), ()), ())
        self.assertIsNone(bad_mix((alone,), (), (), (), "t"))
        self.assertEqual(turned_away((alone,), (), (), (), "q"), ())
        self.assertIs(right_by((alone,), (), (), "t"), True)


class AllCome(unittest.TestCase):
    def test_drawn(self):
        rng, orders, none = random.Random(183), 0, 0
        for runs, seen, have, sent, sheet in CASES:
            kept = drawn.some_of(rng, all_pairs(sent))
            rows = [row for row in permutations(range(len(sent))) if lets(kept, row)]
            ends = {}
            for row in rows:
                for place in row:
                    if all(sent[late][1] != sent[place][1] for late in row[row.index(place) + 1:]):
                        ends.setdefault(sent[place][1], set()).add(place)
            self.assertEqual(last_ones(sent, kept), tuple((name, tuple(sorted(ends[name]))) for name in sorted(ends)))
            bad = [row for row in rows if not right(runs, seen, after(have, sent, row), sheet)]
            told = bad_order(runs, seen, have, sent, kept, sheet)
            if not bad:
                self.assertIsNone(told)
                none += 1
            else:
                self.assertIn(told, bad)
                self.assertIs(is_bad_order(runs, seen, have, sent, kept, sheet, told), True)
                self.assertEqual(bad_order(runs, seen, have, sent, kept, sheet), told)
                orders += 1
            for row in rng.sample(list(permutations(range(len(sent)))), min(6, len(list(permutations(range(len(sent))))))):
                self.assertIs(is_bad_order(runs, seen, have, sent, kept, sheet, row), row in bad)
        self.assertGreater(min(orders, none), 60)

    def test_fewest_kept(self):
        some = none = 0
        for runs, seen, have, sent, sheet in CASES:
            if len(sent) > 4:
                continue
            own = None
            for kept in sorted(looks.subsets(all_pairs(sent)), key=len):
                rows = [row for row in permutations(range(len(sent))) if lets(kept, row)]
                if own is None and all(right(runs, seen, after(have, sent, row), sheet) for row in rows):
                    own = len(kept)
            self.assertEqual(fewest_kept(runs, seen, have, sent, sheet), own)
            some, none = some + (own not in (None, 0)), none + (own is None)
        self.assertGreater(some, 8)
        self.assertGreater(none, 30)

    def test_by_hand(self):
        sent = ((0, "x"), (2, "x"), (1, "y"), (0, "x"), (2, "x"))
        self.assertEqual(last_ones(sent, ()), (("x", (0, 1, 3, 4)), ("y", (2,))))
        self.assertEqual(last_ones(sent, ((0, 1), (0, 3), (1, 4))), (("x", (3, 4)), ("y", (2,))))
        self.assertEqual(last_ones((), ()), ())
        self.assertEqual(fewest_kept(RUNS, SEEN, HAVE, sent, "t"), 2)
        self.assertEqual(fewest_kept(RUNS, SEEN, HAVE, sent[:4], "t"), None)
        self.assertEqual(fewest_kept(RUNS, (), HAVE, sent[:2], "t"), 1)
        self.assertIsNone(fewest_kept(RUNS, (), HAVE, sent[:3], "t"))
        self.assertEqual(fewest_kept(RUNS, (), HAVE, (), "t"), 0)
        self.assertIsNone(fewest_kept(RUNS, (), ((0, "x"), *HAVE[1:]), (), "t"))
        # What it has is wrong, but a letter comes in its place.
        self.assertEqual(fewest_kept(RUNS, (), ((0, "x"), *HAVE[1:]), ((2, "x"),), "t"), 0)
        self.assertEqual(bad_order(RUNS, (), ((0, "x"), *HAVE[1:]), (), (), "t"), ())
        self.assertIs(is_bad_order(RUNS, (), ((0, "x"), *HAVE[1:]), (), (), "t", ()), True)
        self.assertIs(is_bad_order(RUNS, (), HAVE, (), (), "t", ()), False)
        self.assertIsNone(bad_order(RUNS, (), HAVE, sent[:2], ((0, 1),), "t"))
        self.assertEqual(bad_order(RUNS, (), HAVE, sent[:2], (), "t"), (1, 0))

    def test_things_that_are_no_bad_order(self):
        sent = ((0, "x"), (2, "x"), (1, "y"))
        self.assertIs(is_bad_order(RUNS, SEEN, HAVE, sent, (), "t", (1, 2, 0)), True)
        self.assertIs(is_bad_order(RUNS, SEEN, HAVE, sent, ((0, 1),), "t", (1, 2, 0)), False)
        for bad in ((0, 1, 2), (1, 2), (1, 2, 0, 0), (1, 2, 3), (1, 2, -1), (1, 1, 0), (1, 2, False), (True, 2, 0), [1, 2, 0], (1, 2, "0"), (1, 2, None), ()):
            self.assertIs(is_bad_order(RUNS, SEEN, HAVE, sent, (), "t", bad), False, bad)
        for bad in spoiled((1, 2, 0)) + list(PLAIN):
            self.assertIs(is_bad_order(RUNS, SEEN, HAVE, sent, (), "t", bad), False, bad)


class Errors(unittest.TestCase):
    def test_no_spot(self):
        for sheet in ("none", "w", "one"):
            calls = [("right_by", (HAVE, sheet)), ("bad_mix", (HAVE, LETTERS, sheet)), ("turned_away", (HAVE, LETTERS, sheet))]
            calls += [("bad_order", (HAVE, LETTERS, (), sheet)), ("fewest_kept", (HAVE, LETTERS, sheet))]
            calls += [("is_bad_order", (HAVE, LETTERS, (), sheet, thing)) for thing in (None, (0, 1), "ab")]
            for name, arguments in calls:
                with self.assertRaises(NoSpot) as caught:
                    getattr(module, name)(RUNS, SEEN, *arguments)
                self.assertEqual(caught.exception.spot, (2, sheet))

    def test_of_now(self):
        """A SHEET that other RUNS have, but now has not."""
        runs = (RUNS[0], (PLAN[:1], (), (("x", "m"), ("y", "k"))))
        for sheet in ("u", "z", "q"):
            with self.assertRaises(NoSpot) as caught:
                right_by(runs, (), ((1, "x"), (1, "y")), sheet)
            self.assertEqual(caught.exception.spot, (1, sheet))
