"""judge.py: one judge for all PROMISES."""

import random
import unittest

from reportalike.errors import NoName, NoNumber, NoPaper, NoSheet, NoSpot, NoStep
from reportalike.judge import blame, falls_at, is_blame, is_paper, leans_on, paper, stands, without_seen
from tests import drawn, looks, test_readers, test_turned
from tests.promises import COLUMNS, SEEING, promises
from tests.things import PLAIN, listed, spoiled

DRAWN = promises(230, 70)
PLAN = (("p", "f", ("a", "b"), "x", ()), ("q", "f", ("x", "b"), "y", ()), ("r", "g", ("b",), "z", ()))
RUNS = ((PLAN, (), (("a", "m"), ("b", "n"))), (PLAN, (), (("a", "o"), ("b", "n"))))
SEEN = (((0, "a"), (1, "a")), ((0, "x"), (1, "x")))
HELD = ("alike", RUNS, SEEN, (0, "y"), (1, "y"))


def judged(promise, thing):
    """What the last column tells of this thing."""
    judge = COLUMNS[promise[0]][1]
    if judge is not None:
        return judge(*promise[1:], thing)
    return thing in test_turned.apart(*promise[1:])


def seen_in(promise):
    return promise[2] if promise[0] in SEEING else ()


def less(promise, places):
    """The test's own PROMISE without these SEEN pairs."""
    pairs = tuple(pair for place, pair in enumerate(promise[2]) if place not in places)
    return (*promise[:2], pairs, *promise[3:])


class Promises(unittest.TestCase):
    def test_stands(self):
        for word, row in DRAWN.items():
            told = [stands(promise) for promise in row]
            self.assertEqual(told, [COLUMNS[word][0](*promise[1:]) for promise in row], word)
            self.assertGreater(min(told.count(True), told.count(False)), 1, word)
            self.assertTrue(all(type(one) is bool for one in told))

    def test_papers(self):
        for word, row in DRAWN.items():
            for promise in row:
                if stands(promise):
                    with self.assertRaises(NoPaper):
                        paper(promise)
                    continue
                found = paper(promise)
                self.assertIs(judged(promise, found), True, word)
                self.assertIs(is_paper(promise, found), True, word)
                self.assertEqual(paper(listed(promise)), found)

    def test_is_paper_of_papers_against_others(self):
        for word, row in DRAWN.items():
            papers = [paper(promise) for promise in row if not stands(promise)]
            right = 0
            for promise, found in zip(row, (papers * len(row))[3:]):
                self.assertIs(is_paper(promise, found), judged(promise, found), word)
                right += judged(promise, found)
            self.assertLess(right, len(row))

    def test_is_paper_of_all_kinds_of_things(self):
        for word, row in DRAWN.items():
            promise = [one for one in row if not stands(one)][0]
            for thing in PLAIN:
                self.assertIs(is_paper(promise, thing), judged(promise, thing), (word, thing))
            found = paper(promise)
            self.assertIs(is_paper(promise, listed(found)), False, word)
            for thing in spoiled(found)[:300]:
                # A DEED asks for a SHEET or ends with a number, so there another kind of thing may be right, too.
                self.assertIs(is_paper(promise, thing), word == "ends" and judged(promise, thing), (word, thing))

    def test_pairs_against_plans(self):
        greater = 0
        for promise in DRAWN["plans"]:
            pairs = test_turned.apart(*promise[1:])
            for pair in pairs:
                self.assertIs(is_paper(promise, pair), True)
                self.assertIs(is_paper(promise, list(pair)), False)
            greater += len(pairs) > 1
            one, other, goals, _ = promise[1:]
            for variant in [*test_turned.all_variants(one, other), ("w",), ("u", "v", "w"), ("v", "u"), ("u", "u"), ["u"], "u"]:
                for sheet in (*goals, "none", "a", 0, None):
                    self.assertIs(is_paper(promise, (variant, sheet)), (variant, sheet) in pairs)
        self.assertGreater(greater, 10)

    def test_words(self):
        for promise in (("surely",), ("surely", PLAN), ("", None), ("Alike", *HELD[1:]), ("alike ", 3), ("told_spots", 1, 2), ("world", (), 0)):
            for call in ((stands,), (paper,), (is_paper, None), (without_seen, ()), (without_seen, (7,)), (leans_on,), (falls_at, ()), (falls_at, (7,))):
                with self.assertRaises(NoName) as caught:
                    call[0](promise, *call[1:])
                self.assertEqual(caught.exception.name, promise[0])

    def test_errors_of_the_functions(self):
        world = ((), (), 0)
        cases = [
            (NoSpot, ("alike", RUNS, SEEN, (0, "k"), (1, "y"))), (NoSpot, ("alike", RUNS, (((0, "k"), (1, "y")),), (0, "y"), (1, "y"))),
            (NoNumber, ("orders", RUNS, (), 2, ())), (NoNumber, ("right", RUNS, (), -1, ())), (NoSpot, ("hit", RUNS, (), (), (0, "a"), (0, "x"))),
            (NoStep, ("needed", RUNS, (), "w")), (NoSheet, ("hand", RUNS, (), RUNS[0], "w")), (NoSpot, ("ends", ((), ((),), (), ()), 0, "w")),
            (NoSheet, ("moment", RUNS, (), (), "west", ("a",))), (NoSpot, ("letters", RUNS, (), ((1, "a"), (1, "b")), (), (), "w")),
            (NoSpot, ("told", RUNS, (), ((0, "a"),), (0, "w"))), (NoSheet, ("cleared", RUNS[0], (), (), (), "w")),
            (NoSpot, ("holds", RUNS, (), (), ((),), (0, "w"), 5)),
        ]
        self.assertEqual(len({promise[0] for _, promise in cases} | {"sound", "plans", "kind"}), 15)
        for kind, promise in cases:
            for call in ((stands,), (paper,), (is_paper, None), (is_paper, world), (is_paper, (world, world)), (leans_on,), (falls_at, ())):
                with self.assertRaises(kind, msg=(call, promise)):
                    call[0](promise, *call[1:])


class Seen(unittest.TestCase):
    def test_without_seen(self):
        rng = random.Random(231)
        for word, row in DRAWN.items():
            for promise in row[:30]:
                pairs = seen_in(promise)
                places = tuple(rng.randrange(len(pairs)) for _ in range(rng.randint(0, 3))) if pairs else ()
                expected = less(promise, places) if word in SEEING else promise
                self.assertEqual(without_seen(promise, places), expected)
                self.assertEqual(without_seen(listed(promise), list(places)), expected)
                for bad in (len(pairs), -1, 10 ** 30):
                    with self.assertRaises(NoNumber) as caught:
                        without_seen(promise, (*places, bad, -7))
                    self.assertEqual(caught.exception.number, bad)

    def test_without_seen_raises_nothing_else(self):
        promise = ("alike", RUNS, (((0, "k"), (5, "y")), ((0, "a"), (0, "b"))), (9, "w"), (8, "w"))
        self.assertEqual(without_seen(promise, (0,)), (*promise[:2], promise[2][1:], *promise[3:]))
        self.assertEqual(without_seen(promise, (1, 0, 1)), (*promise[:2], (), *promise[3:]))
        self.assertEqual(without_seen(promise, ()), promise)

    def test_seen_of_a_book_is_no_seen(self):
        book = ((("a", ("x",), ()),), ((("x", "m"),), (("x", "n"),)), (), (((0, "x"), (1, "x")),))
        self.assertEqual(without_seen(("ends", book, 0, "a"), ()), ("ends", book, 0, "a"))
        self.assertRaises(NoNumber, without_seen, ("ends", book, 0, "a"), (0,))
        self.assertEqual(leans_on(("ends", book, 0, "a")), ())

    def test_leans_on(self):
        some = 0
        for word, row in DRAWN.items():
            for promise in row:
                expected = tuple(place for place, _ in enumerate(seen_in(promise)) if not stands(less(promise, (place,))))
                self.assertEqual(leans_on(promise), expected)
                some += stands(promise) and bool(expected)
        self.assertGreater(some, 25)

    def test_falls_at(self):
        rng, found = random.Random(232), {}
        for word, row in DRAWN.items():
            for promise in row:
                turns = list(range(len(seen_in(promise))))
                rng.shuffle(turns)
                turns = tuple(turns[:rng.randint(0, len(turns))])
                told = [many for many in range(len(turns) + 1) if not stands(less(promise, turns[:many]) if turns else promise)]
                expected = told[0] if told else None
                self.assertEqual(falls_at(promise, turns), expected)
                self.assertEqual(falls_at(listed(promise), list(turns)), expected)
                found[expected] = found.get(expected, 0) + 1
        self.assertGreater(min(found[0], found[1], found[None]), 10)
        self.assertGreater(found[2], 0)

    def test_by_hand(self):
        self.assertEqual(leans_on(HELD), ())
        self.assertEqual(leans_on(("alike", RUNS, SEEN[:1], *HELD[3:])), (0,))
        self.assertEqual(leans_on(("alike", RUNS, (), (0, "b"), (1, "b"))), ())
        # What does not stand does not stand without a pair either.
        self.assertEqual(leans_on(("alike", RUNS, SEEN, (0, "z"), (1, "y"))), (0, 1))
        self.assertEqual(falls_at(("alike", RUNS, SEEN, (0, "z"), (1, "y")), ()), 0)
        self.assertEqual(falls_at(("alike", RUNS, SEEN, (0, "z"), (1, "y")), (1,)), 0)
        self.assertEqual([falls_at(HELD, turns) for turns in ((), (0,), (1,), (1, 0), (0, 1))], [None, None, None, 2, 2])
        self.assertEqual(falls_at(("alike", RUNS, SEEN[:1], *HELD[3:]), (0,)), 1)

    def test_numbers_come_ahead_of_all_but_the_word(self):
        for promise in (("alike", RUNS, (((0, "k"), (5, "y")),), (9, "w"), (8, "w")), ("needed", RUNS, (((0, "k"), (5, "y")),), "w")):
            for turns in ((1,), (0, 1), (-1, 0)):
                with self.assertRaises(NoNumber):
                    falls_at(promise, turns)
            for call in ((falls_at, (0,)), (falls_at, ()), (leans_on,)):
                with self.assertRaises(NoSpot):
                    call[0](promise, *call[1:])
        with self.assertRaises(NoNumber) as caught:
            falls_at(HELD, (0, 5, 3))
        self.assertEqual(caught.exception.number, 5)
        self.assertRaises(NoNumber, falls_at, ("sound", PLAN), (0,))
        self.assertIsNone(falls_at(("sound", PLAN), ()))

    def test_promises_that_seen_pairs_make_fall(self):
        # e reads what nothing that is there was read for; once it was seen to hold what f read, it may be spared.
        plan, late = (("p", "f", ("a",), "x", ()),), (("q", "f", ("b",), "y", ()),)
        runs = ((plan, (), (("a", "m"),)), (late, (), (("b", "n"),)))
        seen = (((0, "a"), (1, "b")),)
        promise = ("needed", runs, seen, "q")
        self.assertIs(stands(promise), False)
        self.assertIs(stands(without_seen(promise, (0,))), True)
        self.assertEqual(leans_on(promise), ())
        self.assertEqual(falls_at(promise, (0,)), 0)
        self.assertEqual(falls_at(promise, ()), 0)
        # No LOT can be by both pairs; by one of them something else may hold.
        says = (("east", (0, "a"), 1), ("east", (0, "x"), 2))
        vain = ("holds", runs, (((0, "a"), (0, "x")),), says, ((),), (0, "a"), 9)
        self.assertIs(stands(vain), True)
        self.assertEqual((leans_on(vain), falls_at(vain, (0,))), ((0,), 1))


def ways_down(runs, seen, pair):
    """All ways down from a pair of SPOTS of unlike classes: the test's own look."""
    lead = looks.class_of(runs, seen)
    one, other = [looks.maker_of(runs[place], sheet) for place, sheet in pair]
    if one is None or other is None or (one[1], len(one[2])) != (other[1], len(other[2])):
        return [(pair,)]
    found = set()
    for first, second in zip(one[2], other[2]):
        behind = ((pair[0][0], first), (pair[1][0], second))
        if lead[behind[0]] != lead[behind[1]]:
            found |= {(pair, *way) for way in ways_down(runs, seen, behind)}
    return sorted(found)


class Blame(unittest.TestCase):
    def test_blame_and_is_blame(self):
        rng, several, alike_ones, shorter = random.Random(233), 0, 0, 0
        cases = [test_readers.case(rng)[:2] for _ in range(200)]
        cases += [((run, drawn.changed_run(rng, run)), ()) for run in drawn.draws(234, 250, lambda rng: drawn.wide_run(rng, 5))]
        for runs, seen in cases:
            lead, row = looks.class_of(runs, seen), looks.spots(runs)
            last = None
            for _ in range(6):
                pair = (rng.choice(row), rng.choice(row))
                if len(runs) > 1 and rng.random() < 0.7 and (1, pair[0][1]) in row:
                    pair = (pair[0], (1, pair[0][1]))
                found = blame(runs, seen, *pair)
                self.assertEqual(blame(listed(runs), listed(seen), *listed(pair)), found)
                if lead[pair[0]] == lead[pair[1]]:
                    alike_ones += 1
                    self.assertIsNone(found)
                    self.assertIs(is_blame(runs, seen, *pair, (pair,)), False)
                    continue
                ways = ways_down(runs, seen, pair)
                self.assertEqual(found, min(ways, key=lambda way: (len(way), way)))
                several, shorter = several + (len(ways) > 1), shorter + (len({len(way) for way in ways}) > 1)
                for way in ways[:8]:
                    self.assertIs(is_blame(runs, seen, *pair, way), True)
                    self.assertIs(is_blame(runs, seen, *pair[::-1], way), pair == pair[::-1])
                    self.assertIs(is_blame(runs, seen, *pair, way[:-1]), False)
                    self.assertIs(is_blame(runs, seen, *pair, way[1:]), False)
                    for bad in ((*way, way[-1]), (way[0], *way), way[:1] + way[2:], (*way[:-1], way[-1][::-1]), last):
                        self.assertIs(is_blame(runs, seen, *pair, bad), bad in ways)
                    last = way
        self.assertGreater(several, 25)
        self.assertGreater(min(alike_ones, shorter), 10)

    def test_the_order_handed_in(self):
        self.assertEqual(blame(RUNS, (), (1, "y"), (0, "y")), (((1, "y"), (0, "y")), ((1, "x"), (0, "x")), ((1, "a"), (0, "a"))))
        self.assertEqual(blame(RUNS, (), (1, "x"), (0, "y")), (((1, "x"), (0, "y")), ((1, "a"), (0, "x"))))
        self.assertEqual(blame(RUNS, (), (0, "a"), (0, "y")), (((0, "a"), (0, "y")),))
        self.assertIsNone(blame(RUNS, (), (0, "z"), (1, "z")))
        self.assertIsNone(blame(RUNS, (), (0, "y"), (0, "y")))

    def test_reads_of_unlike_classes_alone(self):
        plan = (("p", "f", ("a", "b", "c"), "x", ()), ("q", "f", ("a", "c", "b"), "y", ()), ("r", "f", ("a", "b"), "z", ()))
        runs = ((plan, (), (("a", "k"), ("b", "m"), ("c", "n"))),)
        way = (((0, "x"), (0, "y")), ((0, "b"), (0, "c")))
        self.assertEqual(blame(runs, (), (0, "x"), (0, "y")), way)
        self.assertIs(is_blame(runs, (), (0, "x"), (0, "y"), (way[0], ((0, "c"), (0, "b")))), True)
        self.assertIs(is_blame(runs, (), (0, "x"), (0, "y"), (way[0], ((0, "a"), (0, "a")))), False)
        self.assertIs(is_blame(runs, (), (0, "x"), (0, "y"), (way[0], ((0, "b"), (0, "b")))), False)
        # As many reads are asked for, not only the METHOD.
        self.assertEqual(blame(runs, (), (0, "x"), (0, "z")), (((0, "x"), (0, "z")),))

    def test_the_shortest_is_not_the_least(self):
        plan = (("p", "f", ("u", "v"), "x", ()), ("q", "f", ("i", "j"), "y", ()), ("r", "g", ("k",), "i", ()), ("s", "g", ("l",), "u", ()))
        runs = ((plan, (), tuple((sheet, "m" + sheet) for sheet in "jklv")),)
        self.assertEqual(blame(runs, (), (0, "y"), (0, "x")), (((0, "y"), (0, "x")), ((0, "j"), (0, "v"))))
        self.assertIs(is_blame(runs, (), (0, "y"), (0, "x"), (((0, "y"), (0, "x")), ((0, "i"), (0, "u")), ((0, "k"), (0, "l")))), True)

    def test_things(self):
        way = blame(RUNS, (), (0, "y"), (1, "y"))
        self.assertIs(is_blame(RUNS, (), (0, "y"), (1, "y"), way), True)
        for thing in [*PLAIN, *spoiled(way), listed(way), ((False, "y"), (True, "y"))]:
            self.assertIs(is_blame(RUNS, (), (0, "y"), (1, "y"), thing), False, thing)
        self.assertIs(is_blame(RUNS, (), (0, "z"), (0, "x"), (((False, "z"), (0, "x")),)), False)
        self.assertIs(is_blame(RUNS, (), (0, "z"), (0, "x"), (((0, "z"), (0, "x")),)), True)

    def test_errors(self):
        cases = [((((0, "k"), (0, "y")),), (0, "v"), (0, "w"), (0, "k")), ((), (0, "v"), (0, "w"), (0, "v")), ((), (0, "y"), (2, "w"), (2, "w"))]
        for seen, one, other, first in cases:
            for call in ((blame,), (is_blame, None), (is_blame, ((one, other),))):
                with self.assertRaises(NoSpot) as caught:
                    call[0](RUNS, seen, one, other, *call[1:])
                self.assertEqual(caught.exception.spot, first)


if __name__ == "__main__":
    unittest.main()
