"""labels.py: KINDS of labels, hits, and which of them are right."""

import random
import unittest

from reportalike import labels
from reportalike.errors import NoPaper, NoSpot
from reportalike.labels import (
    can_share, hit_paper, is_hit_paper, is_kind, is_kind_paper, is_right_always, is_right_hit, is_right_kind, kind_paper,
    label_of, least_kinds, misses, seen_by_hits, sure_hits, tied, with_book, wrong_hits,
)
from reportalike.runs import is_runs, is_seen
from tests import drawn, looks
from tests.things import PLAIN, spoiled

FULL = (("method", ""), ("read", "0"), ("read", "1"), ("read", "2"))
PARTS = tuple(sorted((*FULL, ("name", ""), ("sheet", ""), ("flag", "u"), ("flag", "v"), ("counts", "a"), ("counts", "z"),
                      ("counts", "c"), ("counts", "q"))))
PLAN = (("p", "add", ("a",), "x", ()), ("q", "add", ("b",), "y", ()), ("r", "add", (), "z", (("u", 1),)))
RUNS = ((PLAN, (), (("a", "m"), ("b", "n"))), (PLAN, ("u", "w"), (("a", "m"), ("b", "m"), ("k", "o"), ("y", "o"))))
X, Y, Z, W = (0, "x"), (0, "y"), (1, "z"), (1, "y")


def kind_of(rng, chance=None):
    most = rng.choice((0.15, 0.3, 0.5)) if chance is None else chance
    return tuple(part for part in PARTS if rng.random() < most)


def case(rng):
    dense = rng.random() < 0.7
    runs = drawn.runs(rng, most=3, dense=dense, marks=rng.choice(("m", "mn", "mnk")))
    return runs, drawn.seen(rng, runs), kind_of(rng)


def small_case(rng):
    runs = drawn.small_runs(rng)
    return runs, drawn.seen(rng, runs), kind_of(rng, 0.2)


CASES = drawn.draws(110, 200, case)
SMALL = drawn.draws(116, 250, small_case)


def label(runs, spot, kind):
    """The test's own label: SPOTS are marked as such."""
    plan, variant, counts = runs[spot[0]]
    name, method, reads, sheet, _ = looks.maker_of(runs[spot[0]], spot[1])
    row = []
    for word, told in kind:
        if word == "method":
            row.append(method)
        elif word == "name":
            row.append(name)
        elif word == "sheet":
            row.append(sheet)
        elif word == "flag":
            row.append(told in variant)
        elif word == "read":
            row.append((spot[0], reads[int(told)]) if int(told) < len(reads) else None)
        else:
            there = told in dict(counts) and looks.maker_of(runs[spot[0]], told) is None
            row.append((spot[0], told) if there else None)
    return tuple(row)


def ties(runs, kind, one, other):
    pairs = set()
    for first, second in zip(label(runs, one, kind), label(runs, other, kind)):
        if first == second:
            continue
        if type(first) is not tuple or type(second) is not tuple:
            return None
        pairs.add(tuple(sorted((first, second))))
    return tuple(sorted(pairs))


def right(runs, seen, kind, one, other):
    pairs = ties(runs, kind, one, other)
    if pairs is None:
        return True
    table = looks.class_of(runs, (*seen, *pairs))
    return table[one] == table[other]


def is_paper(runs, seen, kind, one, other, world):
    """The test's own look at whether this is a WORLD in which the hit is wrong."""
    pairs = ties(runs, kind, one, other)
    if pairs is None or not looks.is_world(world) or not looks.agrees(world, runs, (*seen, *pairs)):
        return False
    return looks.at(world, runs, one) != looks.at(world, runs, other)


def own_book(runs, kind, world):
    """The test's own going through."""
    book, hits, ends = {}, set(), []
    for place, run in enumerate(runs):
        held = {sheet: looks.held_mark(world, mark) for sheet, mark in run[2]}
        left = sorted(looks.working(run[0], run[1]))
        while left:
            step = [one for one in left if not any(other[3] in one[2] for other in left)][0]
            left.remove(step)
            row = []
            for part in label(runs, (place, step[3]), kind):
                row.append(("spot", held[part[1]]) if type(part) is tuple else ("plain", repr(part)))
            if tuple(row) in book:
                hits.add((place, step[3]))
            else:
                book[tuple(row)] = looks.told(world, step[1], tuple(held[read] for read in step[2]))
            held[step[3]] = book[tuple(row)]
        ends.append(tuple(sorted(held.items())))
    return tuple(ends), tuple(sorted(hits))


class Kinds(unittest.TestCase):
    def test_right(self):
        for good in ((), FULL, PARTS, (("counts", "abcdefgh"),), (("flag", "a"), ("flag", "b")), (("counts", "method"),),
                     tuple(("flag", one + other) for one in "abcdefgh" for other in "abcdefgh")):
            self.assertIs(is_kind(good), True, good)

    def test_wrong(self):
        for bad in (FULL[::-1], FULL + FULL, (FULL[0], FULL[0]), (("method", "a"),), (("name",),), (("name", "", ""),), (("sheet", "x"),),
                    (("read", "3"),), (("read", ""),), (("read", 0),), (("read", "00"),), (("flag", ""),), (("counts", ""),), (("made", ""),),
                    (("counts", "A"),), (("flag", "abcdefghi"),), ("method", ""), (["method", ""],), list(FULL), ("ab",), (("read", True),)):
            self.assertIs(is_kind(bad), False, bad)
        for bad in spoiled(FULL + (("sheet", ""),)) + spoiled((("counts", "a"), ("flag", "b"))):
            empty = isinstance(bad, tuple) and any(part == ("method", "") for part in bad) and is_kind(bad)
            self.assertFalse(is_kind(bad) and not empty, bad)

    def test_plain_things(self):
        for thing in PLAIN:
            self.assertIs(is_kind(thing), repr(thing) == "()", thing)


class Labels(unittest.TestCase):
    def test_by_hand(self):
        self.assertEqual(label_of(RUNS, X, FULL), ("add", (0, "a"), None, None))
        self.assertEqual(label_of(RUNS, Z, FULL), ("add", None, None, None))
        kind = (("counts", "a"), ("counts", "k"), ("counts", "y"), ("flag", "u"), ("flag", "w"), ("name", ""), ("sheet", ""))
        self.assertEqual(label_of(RUNS, W, kind), ((1, "a"), (1, "k"), None, True, True, "q", "y"))
        self.assertEqual(label_of(RUNS, X, kind), ((0, "a"), None, None, False, False, "p", "x"))
        self.assertIs(label_of(RUNS, X, (("flag", "u"),))[0], False)
        self.assertEqual(label_of(RUNS, X, ()), ())
        self.assertIs(can_share(RUNS, (("counts", "k"),), X, W), False)
        self.assertIs(can_share(RUNS, (("counts", "y"),), X, W), True)
        self.assertIs(can_share(RUNS, (("counts", "a"),), X, W), True)
        self.assertEqual(tied(RUNS, (("counts", "a"), ("counts", "b")), W, X), (((0, "a"), (1, "a")), ((0, "b"), (1, "b"))))
        self.assertIs(can_share(RUNS, (("read", "0"),), X, Z), False)
        self.assertIs(can_share(RUNS, (("read", "1"),), X, Z), True)

    def test_drawn(self):
        shared = 0
        for runs, seen, kind in CASES:
            row = looks.made_spots(runs)
            for one in row:
                self.assertEqual(label_of(runs, one, kind), label(runs, one, kind))
                self.assertEqual([type(part) for part in label_of(runs, one, kind)], [type(part) for part in label(runs, one, kind)])
                self.assertEqual(tied(runs, kind, one, one), ())
                for other in row:
                    pairs = ties(runs, kind, one, other)
                    self.assertIs(can_share(runs, kind, one, other), pairs is not None)
                    if pairs is None:
                        self.assertRaises(NoPaper, tied, runs, kind, one, other)
                    else:
                        self.assertEqual(tied(runs, kind, one, other), pairs)
                        shared += len(pairs) > 1
        self.assertGreater(shared, 30)


class Hits(unittest.TestCase):
    def test_right_and_wrong(self):
        papers = 0
        for runs, seen, kind in CASES:
            row, wrong = looks.made_spots(runs), []
            for one, other in looks.pairs_of(row):
                expected = right(runs, seen, kind, one, other)
                self.assertIs(is_right_hit(runs, seen, kind, one, other), expected)
                self.assertIs(is_right_hit(runs, seen, kind, other, one), expected)
                if expected:
                    self.assertRaises(NoPaper, hit_paper, runs, seen, kind, one, other)
                    continue
                wrong.append((one, other))
                world = hit_paper(runs, seen, kind, one, other)
                self.assertTrue(is_paper(runs, seen, kind, one, other, world))
                self.assertIs(is_hit_paper(runs, seen, kind, one, other, world), True)
                self.assertEqual(hit_paper(runs, seen, kind, one, other), world)
                papers += 1
            self.assertEqual(wrong_hits(runs, seen, kind), wrong)
            for one in row:
                self.assertIs(is_right_hit(runs, seen, kind, one, one), True)
        self.assertGreater(papers, 100)

    def test_against_plain_worlds(self):
        """What is right is so in all plain WORLDS; a sure hit has equal labels in all of them."""
        checked = equal = 0
        for runs, seen, kind in SMALL:
            tables = looks.agreeing_worlds(runs, seen, 2)
            wrong, sure = wrong_hits(runs, seen, kind), sure_hits(runs, seen, kind)
            for one, other in looks.pairs_of(looks.made_spots(runs)):
                pairs = ties(runs, kind, one, other)
                lots = [] if pairs is None else [told for told in tables if all(told[a] == told[b] for a, b in pairs)]
                if (one, other) not in wrong:
                    self.assertTrue(all(told[one] == told[other] for told in lots))
                    checked += len(lots) > 0
                if (one, other) in sure:
                    self.assertEqual(len(lots), len(tables))
                    equal += 1
        self.assertGreater(checked, 100)
        self.assertGreater(equal, 20)

    def test_is_hit_paper_in_all_plain_worlds(self):
        found = 0
        for runs, seen, kind in SMALL:
            for world in looks.plain_worlds(runs, 2)[::5]:
                for one, other in looks.pairs_of(looks.made_spots(runs))[:4]:
                    expected = is_paper(runs, seen, kind, one, other, world)
                    self.assertIs(is_hit_paper(runs, seen, kind, one, other, world), expected)
                    found += expected
        self.assertGreater(found, 20)

    def test_things_that_are_no_hit_paper(self):
        world = ((("m", 1), ("n", 1)), (("add", (1,), 5), ("sub", (1,), 6)), 0)
        plan = (("p", "add", ("a",), "x", ()), ("q", "sub", ("b",), "y", ()))
        runs, kind = ((plan, (), (("a", "m"), ("b", "n"))),), (("read", "0"),)
        self.assertIs(is_hit_paper(runs, (), kind, X, Y, world), True)
        self.assertIs(is_hit_paper(runs, (), kind, Y, X, world), True)
        self.assertIs(is_hit_paper(runs, (), (("method", ""),), X, Y, world), False)
        self.assertIs(is_hit_paper(runs, (), kind, X, X, world), False)
        self.assertIs(is_hit_paper(runs, (((0, "a"), (0, "x")),), kind, X, Y, world), False)
        self.assertIs(is_hit_paper(runs, (((0, "a"), (0, "b")),), kind, X, Y, world), True)
        self.assertIs(is_hit_paper(runs, (), kind, X, Y, ((("m", 1), ("n", 2)), world[1], 0)), False)
        self.assertIs(is_hit_paper(runs, (), kind, X, Y, ((), (("add", (0,), 5),), 0)), True)
        for bad in spoiled(world) + list(PLAIN):
            self.assertIs(is_hit_paper(runs, (), kind, X, Y, bad), False, bad)

    def test_kinds_without_method(self):
        plan = (("p", "add", ("a",), "x", ()), ("q", "sub", ("a",), "y", ()))
        runs = ((plan, (), (("a", "m"),)),)
        self.assertEqual(wrong_hits(runs, (), (("read", "0"),)), [(X, Y)])
        self.assertEqual(wrong_hits(runs, ((X, Y),), (("read", "0"),)), [])
        self.assertEqual(sure_hits(runs, (), (("read", "0"),)), [(X, Y)])
        self.assertEqual(misses(runs, ((X, Y),), (("name", ""), ("read", "0"))), [(X, Y)])
        self.assertEqual(wrong_hits(runs, (), (("name", ""),)), [])
        self.assertIs(is_right_kind(plan, (("name", ""), ("read", "0"))), True)

    def test_sure_hits_misses_and_seen(self):
        rng = random.Random(111)
        found = more = 0
        for runs, seen, kind in CASES:
            table, row = looks.class_of(runs, seen), looks.made_spots(runs)
            sure = []
            for one, other in looks.pairs_of(row):
                pairs = ties(runs, kind, one, other)
                if pairs is not None and all(table[first] == table[second] for first, second in pairs):
                    sure.append((one, other))
            self.assertEqual(sure_hits(runs, seen, kind), sure)
            missed = [pair for pair in looks.pairs_of(row) if table[pair[0]] == table[pair[1]] and pair not in sure]
            self.assertEqual(misses(runs, seen, kind), missed)
            found += len(missed) > 0
            pairs = [pair for pair in looks.pairs_of(row) if ties(runs, kind, *pair) is not None]
            some = tuple(rng.choice(pairs)[::rng.choice((1, -1))] for _ in range(min(3, len(pairs))))
            expected = tuple(sorted({*seen, *[pair for one, other in some for pair in ties(runs, kind, one, other)]}))
            told = seen_by_hits(runs, seen, kind, some)
            self.assertEqual(told, expected)
            self.assertIs(is_seen(runs, told), True)
            more += len(told) > len(seen)
        self.assertGreater(found, 20)
        self.assertGreater(more, 20)


class Books(unittest.TestCase):
    def test_with_book_in_plain_worlds(self):
        rng = random.Random(112)
        hits = wrong = 0
        for runs, seen, kind in CASES:
            if looks.how_many_plain(runs, 2) > 2000:
                continue
            worlds = looks.plain_worlds(runs, 2)
            for world in rng.sample(worlds, min(12, len(worlds))):
                for row in (runs, runs[::-1]):
                    told = with_book(row, kind, world)
                    self.assertEqual(told, own_book(row, kind, world))
                    hits += len(told[1])
                    plain = tuple(tuple((sheet, looks.held(world, run, sheet)) for sheet in looks.held_sheets(run)) for run in row)
                    wrong += told[0] != plain
                    if not wrong_hits(row, (), kind):
                        self.assertEqual(told[0], plain)
        self.assertGreater(hits, 300)
        self.assertGreater(wrong, 100)

    def test_right_by_seen(self):
        """Where no hit is wrong by what was seen, all hold what they hold without a book, in the WORLDS that agree."""
        checked = 0
        for runs, seen, kind in CASES:
            if seen and looks.how_many_plain(runs, 2) <= 300 and not wrong_hits(runs, seen, kind):
                for world in looks.plain_worlds(runs, 2):
                    if looks.agrees(world, runs, seen):
                        plain = tuple(tuple((sheet, looks.held(world, run, sheet)) for sheet in looks.held_sheets(run)) for run in runs)
                        self.assertEqual(with_book(runs, kind, world)[0], plain)
                        checked += 1
        self.assertGreater(checked, 50)

    def test_a_wrong_hit_goes_wrong(self):
        """One or two RUNS, run so, do not hold what they hold without a book in the WORLD of a paper."""
        checked = 0
        for runs, seen, kind in CASES:
            for one, other in wrong_hits(runs, seen, kind)[:3]:
                world = hit_paper(runs, seen, kind, one, other)
                places = sorted({one[0], other[0]})
                lots = [tuple(runs[place] for place in row) for row in ([one[0]], [other[0]], places, places[::-1])]
                plain = [tuple(tuple((sheet, looks.held(world, run, sheet)) for sheet in looks.held_sheets(run)) for run in lot) for lot in lots]
                self.assertTrue(any(with_book(lot, kind, world)[0] != told for lot, told in zip(lots, plain)))
                checked += 1
        self.assertGreater(checked, 60)

    def test_what_stands_at_the_hit_is_taken_on(self):
        """A label has what its SPOTS hold then, also behind a wrong hit."""
        plan = (("a", "f", ("x",), "p", ()), ("b", "g", ("x",), "q", ()), ("c", "h", ("p",), "r", ()), ("d", "h", ("q",), "s", ()))
        world = ((("m", 1),), (("f", (1,), 2), ("g", (1,), 3), ("h", (2,), 4), ("h", (3,), 5)), 0)
        runs = ((plan, (), (("x", "m"),)),)
        self.assertEqual(with_book(runs, (("read", "0"),), world), (((("p", 2), ("q", 2), ("r", 4), ("s", 4), ("x", 1)),), ((0, "q"), (0, "s"))))
        self.assertEqual(with_book(runs, (("read", "1"),), world)[1], ((0, "q"), (0, "r"), (0, "s")))
        self.assertEqual(with_book(runs, (("name", ""),), world)[1], ())


def all_runs(plan, kind, variant, marks):
    """RUNS of the PLAN at this VARIANT, all MARKS unlike, with all ways to tell more of the SHEETS in the KIND."""
    needed = looks.needed(plan, variant)
    asked = sorted({told for word, told in kind if word == "counts"} - set(needed))
    for more in looks.subsets(asked):
        sheets = sorted({*needed, *more})
        yield plan, variant, tuple((sheet, marks + "abcdefghijklm"[at]) for at, sheet in enumerate(sheets))


def right_kind(plan, kind):
    """By a look at all pairs of RUNS with unlike MARKS, within one and between two."""
    rows = [(one, other) for variant in looks.subsets(looks.flags(plan)) for one, other in zip(
        all_runs(plan, kind, variant, "l"), all_runs(plan, kind, variant, "r"))]
    for one, _ in rows:
        for _, other in rows:
            runs = (one, other)
            for pair in looks.pairs_of(looks.made_spots(runs)):
                if not right(runs, (), kind, *pair):
                    return False
    return True


class RightKinds(unittest.TestCase):
    def plan_and_kind(self, rng):
        if rng.random() < 0.5:
            plan = drawn.dense_plan(rng, most=3)
        else:
            plan = drawn.sound_plan(rng, most=3, flags=("u",), sheets="abc")
        parts = [part for part in PARTS if part not in (("flag", "v"), ("counts", "c"))]
        chance = rng.choice((0.2, 0.5, 0.8))
        return plan, tuple(part for part in parts if rng.random() < chance)

    def test_drawn(self):
        rights = wrongs = 0
        for plan, kind in drawn.draws(113, 120, self.plan_and_kind):
            expected = right_kind(plan, kind)
            self.assertIs(is_right_kind(plan, kind), expected, (plan, kind))
            if expected:
                self.assertRaises(NoPaper, kind_paper, plan, kind)
                rights += 1
                continue
            runs, world, one, other = paper = kind_paper(plan, kind)
            self.assertTrue(is_runs(runs) and len(runs) in (1, 2) and all(run[0] == plan for run in runs))
            self.assertTrue(is_paper(runs, (), kind, one, other, world))
            self.assertIs(is_kind_paper(plan, kind, paper), True)
            self.assertEqual(kind_paper(plan, kind), paper)
            wrongs += 1
        self.assertGreater(rights, 25)
        self.assertGreater(wrongs, 25)

    def test_drawn_runs_of_right_kinds(self):
        """No hit is wrong in RUNS of the PLAN of whatever COUNTS, at VARIANTS with more FLAGS, too."""
        rng, checked = random.Random(114), 0
        for plan, kind in drawn.draws(113, 120, self.plan_and_kind):
            if not is_right_kind(plan, kind):
                continue
            for _ in range(6):
                runs = []
                for _ in range(2):
                    variant = drawn.some_of(rng, ("u", "v", "w"))
                    sheets = sorted({*looks.needed(plan, variant), *[sheet for sheet in "abcqxz" if rng.random() < 0.4]})
                    runs.append((plan, variant, tuple((sheet, rng.choice("mnk")) for sheet in sheets)))
                self.assertEqual(wrong_hits(tuple(runs), (), kind), [])
                checked += 1
        self.assertGreater(checked, 100)

    def test_counts_that_tell_more(self):
        """At one VARIANT x is read, at the other one it is told for nothing: only so both can share."""
        plan = (("p", "f", ("x",), "y", (("u", 0),)), ("q", "g", (), "y", (("u", 1),)))
        kind = (("counts", "x"), ("sheet", ""))
        self.assertIs(is_right_kind(plan, kind), False)
        runs, world, one, other = kind_paper(plan, kind)
        self.assertIn("x", dict(runs[0][2]))
        self.assertIn("x", dict(runs[1][2]))
        self.assertIs(is_right_kind(plan, (("counts", "x"), ("flag", "u"))), True)
        made = (("p", "f", ("x",), "y", (("u", 0),)), ("q", "g", (), "y", (("u", 1),)), ("r", "h", (), "x", (("u", 1),)))
        self.assertIs(is_right_kind(made, kind), True)
        self.assertIs(is_right_kind(made, (("sheet", ""),)), False)

    def test_is_kind_paper(self):
        plan, kind = PLAN[:2], (("method", ""),)
        runs = ((plan, (), (("a", "m"), ("b", "n"))),)
        world = ((("m", 1), ("n", 2)), (("add", (1,), 3), ("add", (2,), 4)), 0)
        self.assertIs(is_kind_paper(plan, kind, (runs, world, X, Y)), True)
        self.assertIs(is_kind_paper(plan, kind, (runs * 2, world, X, (1, "y"))), True)
        self.assertIs(is_kind_paper(plan, kind, (((plan, ("w",), (("a", "m"), ("b", "n"), ("k", "o"), ("x", "o"))),), world, Y, X)), True)
        for bad in ((runs * 3, world, X, Y), ((), world, X, Y), (runs, world, X, X), (runs, world, X, (1, "y")), (runs, world, X, (0, "a")), (runs, world, (0, "a"), X),
                    (runs, world, X), (runs, world, X, Y, Y), (runs, ((), (), 0), X, Y), (((PLAN, (), (("a", "m"), ("b", "n"))),), world, X, Y),
                    (((plan[:1], (), (("a", "m"),)), runs[0]), world, X, (1, "y")), (((plan, (), (("a", "m"),)),), world, X, Y)):
            self.assertIs(is_kind_paper(plan, kind, bad), False, bad)
        self.assertIs(is_kind_paper(plan, (("sheet", ""),), (runs, world, X, Y)), False)
        self.assertIs(is_kind_paper(PLAN, kind, (runs, world, X, Y)), False)
        for bad in spoiled((runs, world, X, Y)) + list(PLAIN):
            self.assertIs(is_kind_paper(plan, kind, bad), False, bad)

    def test_least_kinds(self):
        several = 0
        rng = random.Random(117)
        for plan, _ in drawn.draws(115, 60, self.plan_and_kind):
            for parts in (tuple(sorted(rng.sample(PARTS, 4))), tuple(sorted(rng.sample((*FULL, *PARTS[-2:], ("name", "")), 4)))):
                rights = [kind for kind in looks.subsets(parts) if right_kind(plan, kind)]
                least = [kind for kind in rights if not any(tuple(part for part in kind if part != gone) in rights for gone in kind)]
                self.assertEqual(least_kinds(plan, parts), sorted(least))
                several += len(least) > 1
        self.assertGreater(several, 5)
        self.assertEqual(least_kinds((), FULL), [()])
        self.assertEqual(least_kinds(PLAN[:1], ()), [])
        self.assertEqual(least_kinds((("p", "f", (), "x", ()),), ()), [()])
        one = (("p", "f", ("a",), "x", ()), ("q", "g", ("b",), "y", ()))
        self.assertEqual(least_kinds(one, (("method", ""), ("name", ""), ("read", "0"), ("sheet", ""))), [
            (("method", ""), ("read", "0")), (("name", ""), ("read", "0")), (("read", "0"), ("sheet", ""))])

    def test_is_right_always(self):
        for kind in looks.subsets(PARTS):
            if len(kind) > 3 and is_right_always(kind) != all(part in kind for part in FULL):
                self.fail(kind)
        self.assertIs(is_right_always(FULL), True)
        self.assertIs(is_right_always(PARTS), True)
        for part in FULL:
            self.assertIs(is_right_always(tuple(one for one in PARTS if one != part)), False)
        self.assertIs(is_right_always(()), False)
        for runs, seen, kind in CASES:
            self.assertEqual(wrong_hits(runs, (), tuple(sorted({*kind, *FULL}))), [])

    def test_without_a_part_something_goes_wrong(self):
        """RUNS of unlike PLANS that differ in the part alone."""
        for part, method, reads in (("method", "g", ("a", "b", "c")), ("0", "f", ("d", "b", "c")), ("1", "f", ("a", "d", "c")), ("2", "f", ("a", "b", "d"))):
            kind = tuple(one for one in FULL if part not in one)
            plans = [(("p", "f", ("a", "b", "c"), "x", ()),), (("p", method, reads, "x", ()),)]
            runs = tuple((plan, (), (("a", "m"), ("b", "n"), ("c", "k"), ("d", "l"))) for plan in plans)
            self.assertEqual(wrong_hits(runs, (), kind), [((0, "x"), (1, "x"))])
            self.assertEqual(wrong_hits(runs, (), FULL), [])


class Errors(unittest.TestCase):
    def test_first_no_spot(self):
        bads = ((0, "a"), (0, "none"), (2, "x"), (-1, "x"), (1, "k"), (0, "z"), (10 ** 40, "x"), (0, ""), (0, "X y"))
        for bad in bads:
            calls = [("label_of", (RUNS, bad, FULL), bad)]
            for one, other, spot in ((bad, X, bad), (X, bad, bad), (bad, (7, "q"), bad), ((7, "q"), bad, (7, "q"))):
                calls += [("can_share", (RUNS, FULL, one, other), spot), ("tied", (RUNS, FULL, one, other), spot)]
                calls += [("is_right_hit", (RUNS, (), FULL, one, other), spot), ("hit_paper", (RUNS, (), FULL, one, other), spot)]
                calls += [("is_hit_paper", (RUNS, (), FULL, one, other, thing), spot) for thing in (None, ((), (), 0), "ab")]
                calls += [("seen_by_hits", (RUNS, (), FULL, ((X, X), (one, other), (X, Z))), spot)]
            for name, arguments, spot in calls:
                with self.subTest(name=name, arguments=arguments):
                    with self.assertRaises(NoSpot) as caught:
                        getattr(labels, name)(*arguments)
                    self.assertEqual(caught.exception.spot, spot)

    def test_no_paper(self):
        self.assertRaises(NoPaper, tied, RUNS, FULL, X, Z)
        self.assertRaises(NoPaper, seen_by_hits, RUNS, (), FULL, ((X, Y), (X, Z), (X, (0, "a"))))
        self.assertRaises(NoPaper, hit_paper, RUNS, (), FULL, X, Z)
        self.assertRaises(NoPaper, hit_paper, RUNS, (), FULL, X, Y)
        self.assertRaises(NoPaper, kind_paper, PLAN, FULL)
