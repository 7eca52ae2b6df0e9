"""why.py: JOININGS, and the SEEN pairs that SPOTS are alike by."""

import random
import unittest

from reportalike import why as module
from reportalike.errors import NoNumber, NoPaper, NoSpot
from reportalike.why import fewest_lot, in_each, is_why, least_lots, more_by, needless, only_by, why
from tests import drawn, looks
from tests.things import PLAIN, spoiled


def case(rng):
    runs = drawn.runs(rng, most=3)
    return runs, drawn.seen(rng, runs, most=5)


CASES = drawn.draws(90, 120, case)
ROW = (("one", "f", ("a",), "b", ()), ("three", "f", ("c",), "d", ()), ("two", "f", ("b",), "c", ()))
RUNS = ((ROW, (), (("a", "m"),)),)
A, B, C, D = [(0, sheet) for sheet in "abcd"]
SIDE = (("g", "k", (), "p", ()), ("h", "k", (), "q", ()), ("k", "s", ("p", "x"), "r", ()), ("l", "s", ("q", "y"), "t", ()))
SIDES = ((SIDE, (), (("x", "m"), ("y", "m"))),)


def pairs_of(row):
    return [(one, other) for at, one in enumerate(row) for other in row[at + 1:]]


def made_by(runs, spot):
    return looks.maker_of(runs[spot[0]], spot[1])


def comes(pairs, one, other):
    """Whether one comes to other by pairs that were put together."""
    reached = [one]
    for spot in reached:
        for pair in pairs:
            if spot in pair:
                reached.extend(more for more in pair if more not in reached)
    return other in reached


def shows(runs, seen, one, other, joinings):
    """The test's own look at whether these show that one and other are alike."""
    row, pairs = looks.spots(runs), []
    for joining in joinings:
        if joining[0] == "seen":
            if not 0 <= joining[1] < len(seen):
                return False
            pairs.append(seen[joining[1]])
            continue
        word, first, second = joining
        if first not in row or second not in row:
            return False
        makers = made_by(runs, first), made_by(runs, second)
        if word == "mark":
            marks = dict(runs[first[0]][2]).get(first[1]), dict(runs[second[0]][2]).get(second[1])
            if makers != (None, None) or marks[0] != marks[1]:
                return False
        else:
            if None in makers or makers[0][1] != makers[1][1] or len(makers[0][2]) != len(makers[1][2]):
                return False
            for near, far in zip(makers[0][2], makers[1][2]):
                if not comes(pairs, (first[0], near), (second[0], far)):
                    return False
        pairs.append((first, second))
    return comes(pairs, one, other)


class Why(unittest.TestCase):
    def test_drawn(self):
        rng = random.Random(91)
        shown = 0
        for runs, seen in CASES:
            table = looks.class_of(runs, seen)
            for one, other in rng.sample(pairs_of(list(table)), min(8, len(pairs_of(list(table))))):
                if table[one] != table[other]:
                    self.assertRaises(NoPaper, why, runs, seen, one, other)
                    continue
                for first, second in ((one, other), (other, one)):
                    told = why(runs, seen, first, second)
                    self.assertIs(type(told), tuple)
                    self.assertTrue(shows(runs, seen, first, second, told))
                    self.assertIs(is_why(runs, seen, first, second, told), True)
                    for at in range(len(told)):
                        self.assertFalse(shows(runs, seen, first, second, told[:at] + told[at + 1:]))
                    self.assertEqual(why(runs, seen, first, second), told)
                    shown += len(told) > 1
        self.assertGreater(shown, 15)

    def test_a_spot_and_itself(self):
        for runs, seen in CASES[:40]:
            for spot in looks.spots(runs):
                self.assertEqual(why(runs, seen, spot, spot), ())
                self.assertIs(is_why(runs, seen, spot, spot, ()), True)

    def test_is_why_drawn(self):
        rng = random.Random(92)
        right = 0
        for runs, seen in CASES:
            row = looks.spots(runs)
            if len(row) < 2:
                continue
            table = looks.class_of(runs, seen)
            for _ in range(25):
                one, other = rng.choice(row), rng.choice(row)
                if table[one] != table[other]:
                    continue
                joinings = list(why(runs, seen, one, other)) * rng.randint(0, 2)
                for _ in range(rng.randint(0, 3)):
                    first, second = rng.choice(row), rng.choice(row)
                    more = rng.choice((("seen", rng.randint(-1, 4)), ("mark", first, second), ("made", first, second),
                                       ("made", first, first), ("mark", second, second)))
                    joinings.insert(rng.randint(0, len(joinings)), more)
                rng.shuffle(joinings)
                expected = shows(runs, seen, one, other, joinings)
                right += expected and bool(joinings)
                self.assertIs(is_why(runs, seen, one, other, tuple(joinings)), expected)
        self.assertGreater(right, 30)

    def test_is_why_by_hand(self):
        p, q, r, t, x, y = [(0, sheet) for sheet in "pqrtxy"]
        told = (("mark", x, y), ("made", p, q), ("made", r, t))
        for good in (told, (told[1], told[0], told[2]), (*told, *told), (("mark", x, x), *told), (("made", r, r), *told),
                     (("mark", y, x), ("made", q, p), ("made", t, r))):
            self.assertIs(is_why(SIDES, (), r, t, good), True)
            self.assertIs(is_why(SIDES, (), t, r, good), True)
        for bad in (told[:2], told[1:], told[::-1], (told[0], told[2], told[1]), (), (*told, ("made", p, r)), (*told, ("made", x, y)),
                    (*told, ("mark", p, q)), (*told, ("mark", x, p)), (*told, ("seen", 0)), (*told, ("seen", -1)), (*told, ("seen",)),
                    (*told, ("mark", x)), (*told, ("mark", x, y, y)), (*told, ("like", x, y)), (*told, ("like", 0)),
                    (("seen", 0), *told), (*told, ("mark", x, (0, "z"))),
                    (*told, ("mark", x, (1, "y"))), (*told, ()), told[0]):
            self.assertIs(is_why(SIDES, (), r, t, bad), False, bad)
        for bad in spoiled(told):
            self.assertIs(is_why(SIDES, (), r, t, bad), False, bad)

    def test_made_by_one_method_that_read_as_many(self):
        plan = (("a", "f", ("x",), "p", ()), ("b", "f", ("x", "x"), "q", ()), ("c", "g", ("x",), "r", ()), ("d", "f", ("x",), "s", ()),
                ("e", "f", (), "t", ()), ("h", "g", (), "u", ()))
        runs = ((plan, (), (("x", "m"),)),)
        p, q, r, s, t, u = [(0, sheet) for sheet in "pqrstu"]
        self.assertIs(is_why(runs, (), p, s, (("made", p, s),)), True)
        for one, other in ((p, q), (p, r), (q, r), (p, t), (t, u), (t, p), (q, p), (u, r)):
            self.assertIs(is_why(runs, (), one, other, (("made", one, other),)), False)
            self.assertIs(is_why(runs, (), p, s, (("made", one, other), ("made", p, s))), False)

    def test_is_why_plain_things(self):
        for thing in PLAIN:
            seen_first = repr(thing) == "(('seen', 0),)"
            self.assertIs(is_why(RUNS, ((A, C),), A, C, thing), seen_first, thing)
            self.assertIs(is_why(RUNS, ((A, C),), A, A, thing), seen_first or repr(thing) == "()", thing)
        self.assertIs(is_why(RUNS, ((A, C),), A, C, (("seen", False),)), False)
        self.assertIs(is_why(RUNS, ((A, B), (A, C)), A, C, (("seen", True),)), False)
        self.assertIs(is_why(RUNS, ((A, C),), A, C, (("seen", 0),) * 500), True)
        self.assertIs(is_why(RUNS, ((A, C),), A, C, (("seen", 0), ("like", 0))), False)
        self.assertIs(is_why(RUNS, ((A, C),), A, C, (("seen", 0), ("mark", 0))), False)

    def test_what_is_read_must_come_ahead(self):
        seen = ((A, C),)
        self.assertIs(is_why(RUNS, seen, B, D, (("made", B, D), ("seen", 0))), False)
        self.assertIs(is_why(RUNS, seen, B, D, (("seen", 0), ("made", D, B))), True)
        self.assertIs(is_why(RUNS, seen, A, C, (("seen", 0), ("made", C, D))), False)
        self.assertEqual(why(RUNS, seen, A, C), (("seen", 0),))


class Seen(unittest.TestCase):
    def lots(self, runs, seen):
        """Of each set of places the classes by these SEEN pairs alone."""
        return {lot: looks.class_of(runs, [seen[place] for place in lot]) for lot in looks.subsets(range(len(seen)))}

    def test_drawn(self):
        rng = random.Random(93)
        found = 0
        for runs, seen in CASES:
            tables = self.lots(runs, seen)
            places = tuple(range(len(seen)))
            whole, row = tables[places], looks.spots(runs)
            without = {place: tables[tuple(at for at in places if at != place)] for place in places}
            self.assertEqual(needless(runs, seen), tuple(
                place for place in places if without[place][seen[place][0]] == without[place][seen[place][1]]))
            for place in places:
                only = [(one, other) for one, other in pairs_of(row)
                        if whole[one] == whole[other] and without[place][one] != without[place][other]]
                self.assertEqual(only_by(runs, seen, place), only)
                found += len(only) > 1
            for one, other in rng.sample(pairs_of(row), min(6, len(pairs_of(row)))):
                self.check_pair(runs, seen, one, other, tables)
            tells = [lot for lot in tables if all(tables[lot][one] == tables[lot][other] for one, other in seen)]
            self.assertEqual(fewest_lot(runs, seen), min(tells, key=lambda lot: (len(lot), lot)))
        self.assertGreater(found, 10)

    def check_pair(self, runs, seen, one, other, tables):
        places = tuple(range(len(seen)))
        whole, row = tables[places], looks.spots(runs)
        more = looks.class_of(runs, [*seen, (one, other)])
        self.assertEqual(more_by(runs, seen, one, other), [
            pair for pair in pairs_of(row) if whole[pair[0]] != whole[pair[1]] and more[pair[0]] == more[pair[1]]])
        self.assertEqual(more_by(runs, seen, other, one), more_by(runs, seen, one, other))
        right = [lot for lot in tables if tables[lot][one] == tables[lot][other]]
        least = sorted(lot for lot in right if not any(set(less) < set(lot) for less in right))
        self.assertEqual(least_lots(runs, seen, one, other), least)
        if whole[one] != whole[other]:
            self.assertEqual(least, [])
            self.assertRaises(NoPaper, in_each, runs, seen, one, other)
        else:
            self.assertEqual(in_each(runs, seen, one, other), tuple(
                place for place in places if all(place in lot for lot in right)))

    def test_edges(self):
        ring = ((A, B), (A, C), (A, D))
        self.assertEqual(least_lots(RUNS, ring, A, A), [()])
        self.assertEqual(least_lots(RUNS, (), A, B), [])
        self.assertEqual(least_lots(RUNS, ring, C, D), [(0,), (1, 2)])
        self.assertEqual(in_each(RUNS, ring, A, A), ())
        self.assertEqual(in_each(RUNS, ring, A, D), ())
        self.assertEqual(in_each(RUNS, ((A, D),), A, D), (0,))
        self.assertEqual(more_by(RUNS, (), A, A), [])
        self.assertEqual(more_by(RUNS, (), B, A), pairs_of([A, B, C, D]))
        self.assertEqual(fewest_lot(RUNS, ()), ())
        self.assertEqual(fewest_lot(RUNS, ((A, C), (B, D))), (0,))
        self.assertEqual(fewest_lot(RUNS, ((A, C), (A, D), (B, D))), (0, 1))
        self.assertEqual(needless(RUNS, ((A, C), (B, D))), (1,))
        self.assertEqual(only_by(RUNS, ((A, C), (B, D)), 0), [(A, C)])
        self.assertEqual(only_by(RUNS, ((A, C), (B, D)), 1), [])

    def test_all_by_eight_pairs(self):
        runs = (RUNS[0], RUNS[0])
        row = looks.spots(runs)
        seen = tuple(pairs_of(row)[:8])
        self.assertEqual(fewest_lot(runs, seen), (0,))
        self.assertEqual(least_lots(runs, seen, A, (1, "a")), [()])


class Errors(unittest.TestCase):
    def test_first_no_spot(self):
        bad, worse, worst = (0, "x"), (1, "a"), (-1, "a")
        seen = ((worst, A), (A, bad))
        for name in ("why", "in_each", "more_by", "least_lots", "is_why"):
            more = (None,) if name == "is_why" else ()
            for told, one, other, spot in (
                    (seen, bad, worse, worst), ((), bad, worse, bad), (((A, B),), A, worse, worse), (((A, bad),), worse, A, bad)):
                with self.subTest(name=name, spot=spot):
                    with self.assertRaises(NoSpot) as caught:
                        getattr(module, name)(RUNS, told, one, other, *more)
                    self.assertEqual(caught.exception.spot, spot)
        for name, more in (("needless", ()), ("fewest_lot", ()), ("only_by", (7,)), ("only_by", (0,))):
            with self.assertRaises(NoSpot) as caught:
                getattr(module, name)(RUNS, seen, *more)
            self.assertEqual(caught.exception.spot, worst)

    def test_no_number(self):
        for seen, place in (((), 0), (((A, B),), 1), (((A, B),), -1), (((A, B),), 10 ** 40)):
            with self.assertRaises(NoNumber) as caught:
                only_by(RUNS, seen, place)
            self.assertEqual(caught.exception.number, place)
