"""deeds.py: ASKWORLDS, what is done in them, and DAYS with new MARKS."""

import random
import unittest

from reportalike import deeds
from reportalike.asked import asked_classes, can_fail, can_read, failing, is_book, note_for, way_of
from reportalike.deeds import (
    agrees_with, can_make, day_played, failing_world, free_askworld, is_askworld, is_failing_world, must_look, openings,
    read_in, sure_makes,
)
from reportalike.errors import NoSpot
from tests import asklooks, looks
from tests.test_asked import BOOK, BOOKS, LATE, RING
from tests.things import PLAIN, spoiled

WORLD = ((("k", 1), ("m", 2), ("n", 3)), (("a", (("x", 2),), 7), ("b", (("y", 3),), "a"), ("b", (("y", 3), ("a", 7)), 8)), 0)


def wild_world(rng, book):
    """An ASKWORLD whose DEEDS may ask for what is not in may, or was read, and whose MARKS are told in part."""
    plan, days, _, _ = book
    world = asklooks.some_world(rng, (plan, days, (), ()), rng.choice((2, 3)), 0.6)
    contents = tuple(pair for pair in world[0] if rng.random() < 0.8)
    rows = []
    for sheet, read, what in world[1]:
        if rng.random() < 0.2:
            what = rng.choice((*asklooks.sheets(plan), "far", 1, -5))
        if rng.random() < 0.9:
            rows.append((sheet, read, what))
    return contents, tuple(rows), rng.choice((0, 1, 5))


class Forms(unittest.TestCase):
    def test_right(self):
        great = tuple(("a", (("x", one), ("y", other)), "b" if one > other else one) for one in range(30) for other in range(30))
        for good in (WORLD, ((), (), 0), ((), great, -1), ((), (("a", (), "a"),), 0), ((), (("a", (), 10 ** 50), ("a", (("a", -1),), "b")), 0),
                     ((("m", 10 ** 60),), (), 0), ((), (("a", (("x", 0), ("x", 0)), 1),), 0)):
            self.assertIs(is_askworld(good), True, good)

    def test_wrong(self):
        contents, rows, rest = WORLD
        for bad in ((contents, rows), (*WORLD, 0), (contents[::-1], rows, rest), (contents, rows[::-1], rest), (contents * 2, rows, rest),
                    (contents, (rows[0], rows[0]), rest), (contents, (rows[0], ("a", (("x", 2),), 8)), rest), (contents, rows, None),
                    ((), (("a", (), ""),), 0), ((), (("a", (), None),), 0), ((), (("a", (), True),), 0), ((), (("a", (), ("b",)),), 0),
                    ((), (("a", ()),), 0), ((), (("a", (), 1, 1),), 0), ((), (("a", (("x",),), 1),), 0), ((), (("a", (("x", "m"),), 1),), 0),
                    ((), (("a", ("x", 1), 1),), 0), ((), (("a", [("x", 1)], 1),), 0), ((), (("A", (), 1),), 0), ((), [("a", (), 1)], 0)):
            self.assertIs(is_askworld(bad), False, bad)
        for bad in spoiled(WORLD):
            if not self.is_other_world(bad):
                self.assertIs(is_askworld(bad), False, bad)
        for thing in PLAIN:
            self.assertIs(is_askworld(thing), repr(thing) == "((), (), 0)", thing)

    def is_other_world(self, thing):
        """Whether thing is WORLD but for a number in the place of a NAME that is asked for, or a NAME for a number."""
        try:
            return asklooks.is_askworld(thing) and all(type(what) is int or what.isalpha() and what.islower() and what.isascii()
                                                       and len(what) < 9 for _, _, what in thing[1]) and len(thing) == 3
        except (TypeError, ValueError):
            return False


class Played(unittest.TestCase):
    def test_beside_many_askworlds(self):
        rng, fails, wild = random.Random(160), 0, 0
        for book in BOOKS:
            plan, days, _, _ = book
            for world in (wild_world(rng, book), wild_world(rng, book), asklooks.some_world(rng, (plan, days, (), ()), 2, 0.8)):
                self.assertIs(is_askworld(world), True)
                wild += any(what == "far" for _, _, what in world[1])
                for counts in days:
                    day = asklooks.played(plan, counts, world)
                    self.assertEqual(day_played(plan, counts, world), tuple(sorted(day.ends.items())))
                    for sheet in (*asklooks.sheets(plan), "far"):
                        self.assertEqual(read_in(plan, counts, world, sheet), day.reads.get(sheet, ()))
                    fails += len(day.ends) < len(asklooks.sheets(plan))
        self.assertGreater(fails, 100)
        self.assertGreater(wild, 25)

    def test_by_hand(self):
        days = LATE[1]
        self.assertEqual(day_played(RING, days[0], WORLD), (("a", 7), ("b", 8), ("x", 2), ("y", 3)))
        self.assertEqual(read_in(RING, days[0], WORLD, "b"), ("y", "a"))
        self.assertEqual(read_in(RING, days[0], WORLD, "x"), ())
        asks = ((), (("a", (("x", 0),), "b"), ("b", (("y", 0),), "a")), 0)
        self.assertEqual(day_played(RING, days[0], asks), (("x", 0), ("y", 0)))
        self.assertEqual((read_in(RING, days[0], asks, "a"), read_in(RING, days[0], asks, "b")), (("x", "b"), ("y", "a")))
        # Asked for is what is not in may, what was read, its own: the ASKER ends with rest, and asks for nothing.
        for what in ("y", "x", "a", "far"):
            world = ((), (("a", (("x", 4),), what),), 4)
            self.assertEqual(read_in(RING, days[0], world, "a"), ("x",))
            self.assertEqual(dict(day_played(RING, days[0], world))["a"], 4)
        again = ((), (("a", (("x", 4),), "b"), ("a", (("x", 4), ("b", 4)), "b")), 4)
        self.assertEqual(read_in(RING, days[0], again, "a"), ("x", "b"))
        self.assertEqual(dict(day_played(RING, days[0], again))["a"], 4)
        # What is read twice at first stands twice in what was read.
        twice = (("a", ("x", "x"), ()),)
        world = ((("m", 1),), (("a", (("x", 1),), 2), ("a", (("x", 1), ("x", 1)), 3)), 0)
        self.assertEqual(day_played(twice, (("x", "m"),), world), (("a", 3), ("x", 1)))
        self.assertEqual(read_in(twice, (("x", "m"),), world, "a"), ("x", "x"))
        # c needs a, which waits for its own; d does not.
        plan = (*RING, ("c", ("x", "a", "y"), ("d",)), ("d", ("x",), ()))
        self.assertEqual([own[0] for own in day_played(plan, days[0], asks)], ["d", "x", "y"])
        self.assertEqual(read_in(plan, days[0], asks, "c"), ("x", "a"))
        self.assertEqual(day_played((), (), ((), (), 0)), ())


class Agreeing(unittest.TestCase):
    def test_agrees_with(self):
        rng, yes, no = random.Random(161), 0, 0
        for at, book in enumerate(BOOKS):
            worlds = [world for world, _ in asklooks.agreeing_worlds(at + 5000, book, tries=3)]
            worlds += [wild_world(rng, book), asklooks.some_world(rng, (*book[:2], (), ()), 2, 0.5)]
            for world in worlds:
                expected = asklooks.did(book, world)
                self.assertIs(agrees_with(book, world), expected)
                yes += expected
                no += not expected
        self.assertGreater(yes, 300)
        self.assertGreater(no, 100)

    def test_by_hand(self):
        self.assertIs(agrees_with(LATE, WORLD), True)
        for world in (((), (), 0), (WORLD[0], WORLD[1][:1], 0), ((), (("b", (("y", 0),), "a"), ("a", (("x", 0),), "b")), 0),
                      (WORLD[0], (("a", (("x", 2),), "b"), *WORLD[1][1:]), 0)):
            self.assertIs(agrees_with(LATE, world), False)
        seen = (*LATE[:3], (((0, "a"), (0, "b")),))
        self.assertIs(agrees_with(seen, WORLD), False)
        self.assertIs(agrees_with(seen, (WORLD[0], (*WORLD[1][:2], ("b", (("y", 3), ("a", 7)), 7)), 0)), True)
        self.assertIs(agrees_with((*LATE[:3], (((0, "x"), (1, "x")),)), WORLD), False)
        both = (RING, LATE[1], ((0, "a", ("b",)), (0, "b", ("a",))), ())
        self.assertIs(agrees_with(both, ((), (("a", (("x", 0),), "b"), ("b", (("y", 0),), "a")), 0)), False)


class Worlds(unittest.TestCase):
    def test_free_askworld(self):
        for book in BOOKS:
            world = free_askworld(book)
            self.assertTrue(asklooks.is_askworld(world) and is_askworld(world))
            self.assertTrue(asklooks.did(book, world))
            self.assertEqual(free_askworld(book), world)
            days = [asklooks.played(book[0], counts, world) for counts in book[1]]
            held = {}
            for number, lot in enumerate(asked_classes(book)):
                for day, sheet in lot:
                    self.assertEqual(held.setdefault(days[day].ends[sheet], number), number)

    def test_failing_world(self):
        rng, found, judged = random.Random(162), 0, 0
        for book in BOOKS:
            others = [wild_world(rng, book)] + [world for world, _ in asklooks.agreeing_worlds(found, book, tries=3)]
            for day, sheet in asklooks.spots(book):
                world = failing_world(book, day, sheet)
                self.assertIs(world is None, not can_fail(book, day, sheet))
                if world is not None:
                    self.assertTrue(asklooks.is_askworld(world) and asklooks.did(book, world))
                    self.assertNotIn(sheet, asklooks.played(book[0], book[1][day], world).ends)
                    self.assertIs(is_failing_world(book, day, sheet, world), True)
                    self.assertEqual(failing_world(book, day, sheet), world)
                    found += 1
                for other in others:
                    expected = asklooks.did(book, other) and sheet not in asklooks.played(book[0], book[1][day], other).ends
                    self.assertIs(is_failing_world(book, day, sheet, other), expected)
                    judged += expected
        self.assertGreater(found, 150)
        self.assertGreater(judged, 60)

    def test_things_that_are_no_failing_world(self):
        world = failing_world(LATE, 1, "a")
        self.assertIs(is_failing_world(LATE, 1, "b", world), True)
        self.assertIs(is_failing_world(LATE, 1, "x", world), False)
        self.assertIs(is_failing_world(LATE, 0, "a", world), False)
        self.assertIs(is_failing_world(LATE, 1, "a", WORLD), False)
        for bad in spoiled(WORLD) + list(PLAIN):
            self.assertIs(is_failing_world(LATE, 1, "a", bad), False, bad)
        lame = ((), (("a", (("x", 0),), "b"), ("b", (("y", 0),), "a")), 0)
        self.assertIs(is_failing_world((*LATE[:2], (), ()), 1, "a", lame), True)
        self.assertIs(is_failing_world(LATE, 1, "a", lame), False)


def with_day(book, day, turn):
    """The BOOK with a DAY more, like this one but for new MARKS."""
    plan, days, notes, seen = book
    return plan, (*days, tuple((sheet, "new" + sheet if sheet in turn else mark) for sheet, mark in days[day])), notes, seen


class MoreDays(unittest.TestCase):
    def test_must_look(self):
        some = none = 0
        for book in BOOKS:
            late = len(book[1])
            for day, sheet in asklooks.spots(book):
                told = must_look(book, day, sheet)
                if note_for(book, day, sheet) is None:
                    self.assertIsNone(told)
                    none += 1
                    continue
                own = [one for one in asklooks.unmade(book[0]) if note_for(with_day(book, day, (one,)), late, sheet) is None]
                self.assertEqual(told, tuple(own))
                some += 0 < len(own) < len(asklooks.unmade(book[0]))
        self.assertGreater(some, 60)
        self.assertGreater(none, 60)

    def test_openings(self):
        some = several = 0
        for book in BOOKS[::2]:
            late = len(book[1])
            for day, sheet in asklooks.spots(book):
                lots = [turn for turn in looks.subsets(asklooks.unmade(book[0])) if can_fail(with_day(book, day, turn), late, sheet)]
                least = sorted(turn for turn in lots if not any(set(less) < set(turn) for less in lots))
                told = openings(book, day, sheet)
                self.assertEqual(told, least)
                self.assertIs(told == [()], can_fail(book, day, sheet))
                some += told not in ([], [()])
                several += len(told) > 1
        self.assertGreater(some, 15)
        self.assertGreater(several, 3)

    def test_by_hand(self):
        self.assertEqual(must_look(LATE, 0, "b"), ("x", "y"))
        self.assertEqual(must_look(LATE, 0, "a"), ("x",))
        self.assertIsNone(must_look(LATE, 1, "a"))
        self.assertIsNone(must_look(LATE, 0, "x"))
        self.assertIsNone(must_look(LATE, 1, "b"))
        self.assertEqual((openings(LATE, 0, "a"), openings(LATE, 1, "b"), openings(LATE, 0, "x")), ([("x",)], [()], []))
        self.assertEqual(must_look(BOOK, 1, "page"), ("conf", "src"))
        # Another NOTE may be right then: where x is new, a may still be what it was.
        plan = (("a", (), ("x",)),)
        book = (plan, ((("x", "m"),),), ((0, "a", ()),), ())
        self.assertEqual(must_look(book, 0, "a"), ())
        both = (("a", ("x",), ("b",)), ("b", ("y",), ("a",)))
        noted = (both, LATE[1][:1], ((0, "a", ()), (0, "b", ())), ())
        self.assertEqual(openings(noted, 0, "a"), [("x", "y")])
        self.assertIs(is_book(with_day(noted, 0, ("x",))), True)
        # The sets stand ascending, not the smaller ones first.
        wide = (*both, ("c", ("z",), ("d",)), ("d", ("c",), ()), ("s", ("a", "c"), ()))
        notes = tuple((0, sheet, ()) for sheet in "abcd")
        self.assertEqual(openings((wide, ((("x", "m"), ("y", "n"), ("z", "k")),), notes, ()), 0, "s"), [("x", "y"), ("z",)])


class Makes(unittest.TestCase):
    def closure(self, book, day, sheet, reads):
        found, row = [], [sheet]
        for one in row:
            if one in asklooks.made(book[0]):
                found.append(one)
                row.extend(more for more in reads(book, day, one) if more not in row)
        return tuple(sorted(found))

    def test_drawn(self):
        unlike = 0
        for at, book in enumerate(BOOKS):
            worlds = asklooks.agreeing_worlds(at + 7000, book, tries=4)
            for day, sheet in asklooks.spots(book):
                sure, can = sure_makes(book, day, sheet), can_make(book, day, sheet)
                self.assertEqual(sure, self.closure(book, day, sheet, lambda *told: way_of(*told)[0]))
                self.assertEqual(can, self.closure(book, day, sheet, can_read))
                for number, (_, days) in enumerate(worlds):
                    row = set(self.closure(book, day, sheet, lambda _, late, one: days[late].reads[one]))
                    self.assertTrue(row <= set(can))
                    if sheet in days[day].ends:
                        self.assertTrue(set(sure) <= row)
                        self.assertTrue(number != 0 or row == set(sure))
                        self.assertTrue(number != 1 or row == set(can))
                unlike += len(can) > len(sure) > 1
        self.assertGreater(unlike, 40)

    def test_by_hand(self):
        self.assertEqual((sure_makes(LATE, 1, "a"), can_make(LATE, 1, "a")), (("a",), ("a", "b")))
        self.assertEqual((sure_makes(LATE, 1, "b"), can_make(LATE, 1, "b")), (("a", "b"), ("a", "b")))
        self.assertEqual((sure_makes(LATE, 1, "x"), can_make(LATE, 1, "x")), ((), ()))
        plan = (("a", ("x",), ()), ("b", ("a",), ()), ("c", ("b",), ("a", "e")), ("d", ("c", "c"), ()), ("e", (), ()))
        book = (plan, ((("x", "m"),),), (), ())
        self.assertEqual((sure_makes(book, 0, "d"), can_make(book, 0, "d")), (("a", "b", "c", "d"), ("a", "b", "c", "d", "e")))
        self.assertEqual(failing(book, 0), ())


class Errors(unittest.TestCase):
    def test_no_spot(self):
        for spot in ((2, "a"), (-1, "b"), (0, "none"), (10 ** 40, "x")):
            calls = [(name, spot) for name in ("failing_world", "must_look", "openings", "sure_makes", "can_make")]
            calls += [("is_failing_world", (*spot, thing)) for thing in (None, ((), (), 0), WORLD)]
            for name, arguments in calls:
                with self.assertRaises(NoSpot) as caught:
                    getattr(deeds, name)(LATE, *arguments)
                self.assertEqual(caught.exception.spot, spot)
