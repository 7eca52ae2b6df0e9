"""asked.py: ASKPLANS, DAYS, BOOKS, and what is sure of what ASKERS read."""

import random
import unittest

from reportalike import asked
from reportalike.asked import (
    asked_classes, book_agrees, can_fail, can_read, failing, is_alike, is_askplan, is_book, is_days, note_for, way_of,
)
from reportalike.errors import NoNumber, NoSpot, NotSound
from tests import asklooks
from tests.things import PLAIN, spoiled

PLAN = (("list", ("src",), ("old",)), ("page", ("conf",), ("list", "old")))
DAYS = ((("conf", "m"), ("old", "o"), ("src", "s")), (("conf", "m"), ("old", "p"), ("src", "s")), (("conf", "n"), ("old", "o"), ("src", "t")))
NOTES = ((0, "list", ()), (0, "page", ("list",)))
BOOK = (PLAN, DAYS, NOTES, ())
RING = (("a", ("x",), ("b",)), ("b", ("y",), ("a",)))
LATE = (RING, ((("x", "m"), ("y", "n")), (("x", "k"), ("y", "n"))), ((0, "a", ()), (0, "b", ("a",))), ())
BOOKS = asklooks.drawn_books(150, 260)


class Forms(unittest.TestCase):
    def test_askplans(self):
        for good in ((), PLAN, RING, (("a", (), ()),), (("a", ("x", "x", "x", "x"), ("b", "c", "d", "e", "f")),),
                     (("a", ("b",), ()), ("b", ("c",), ("a",)), ("c", (), ("a", "b"))), tuple((one + other, ("x",), ()) for one in "abcd" for other in "abcd")):
            self.assertIs(is_askplan(good), True, good)
        for bad in (PLAN[::-1], PLAN + PLAN, (("a", ("a",), ()),), (("a", ("b",), ()), ("b", ("a",), ())), (("a", (), ("a",)),),
                    (("a", ("x",), ("x",)),), (("a", (), ("c", "b")),), (("a", (), ("b", "b")),), (("a", ()),), (("a", (), (), ()),),
                    (("a", ("b",), ()), ("b", ("c",), ()), ("c", ("a",), ())), (("a", (), ()), ("a", (), ("x",))), ("a", (), ()), (("a", "x", ()),),
                    (["a", (), ()],), (("a", [], ()),), (("a", (), ["x"]),), list(PLAN), (("A", (), ()),)):
            self.assertIs(is_askplan(bad), False, bad)
        for bad in spoiled(PLAN):
            self.assertIs(is_askplan(bad), False, bad)
        for thing in PLAIN:
            self.assertIs(is_askplan(thing), repr(thing) == "()", thing)

    def test_days(self):
        for good in (DAYS, DAYS[:1], DAYS * 30):
            self.assertIs(is_days(PLAN, good), True)
        self.assertIs(is_days((("a", (), ()),), ((), ())), True)
        self.assertIs(is_days((), ((),)), True)
        for bad in ((), DAYS[0], list(DAYS), (list(DAYS[0]),), (DAYS[0][:2],), (DAYS[0], DAYS[1][1:]), ((("list", "m"), *DAYS[0][1:]),),
                    ((*DAYS[0], ("zz", "m")),), (DAYS[0][::-1],), ((("conf", "m"), ("list", "m"), *DAYS[0][1:]),), (None,), ((), ())):
            self.assertIs(is_days(PLAN, bad), False, bad)
        for bad in spoiled(DAYS[:2]):
            self.assertIs(is_days(PLAN, bad), False, bad)
        for thing in PLAIN:
            self.assertIs(is_days(PLAN, thing), False, thing)
            self.assertIs(is_days((), thing), repr(thing) in ("((),)", "((), ())", "((), (), ())"), thing)

    def test_books(self):
        seen = (((0, "conf"), (0, "list")), ((0, "conf"), (2, "old")), ((0, "list"), (0, "page")))
        for good in (BOOK, LATE, (PLAN, DAYS, (), ()), (PLAN, DAYS, NOTES, seen), (PLAN, DAYS * 20, NOTES, ()), ((), ((),), (), ())):
            self.assertIs(is_book(good), True, good)
        for book in BOOKS:
            self.assertIs(is_book(book), True)
        # It is a BOOK also if nobody can have done all this.
        self.assertIs(is_book((RING, LATE[1], ((0, "a", ("b",)), (0, "b", ("a",))), ())), True)
        self.assertIs(is_book((RING, LATE[1], ((0, "a", ()), (1, "a", ()), (1, "b", ())), (((0, "x"), (1, "x")),))), True)

    def test_things_that_are_no_book(self):
        for notes in (NOTES[::-1], NOTES + NOTES, NOTES[1:], (*NOTES, (0, "page", ("old",))), ((0, "page", ()), (0, "page", ("old",))),
                      ((0, "list", ("page",)),), ((0, "list", ("src",)),), ((0, "list", ("old", "old")),), ((3, "list", ()),), ((-1, "list", ()),),
                      ((0, "old", ()),), ((0, "none", ()),), ((0, "list"),), ((0, "list", (), ()),), ((False, "list", ()),), ((0, "list", []),),
                      ([0, "list", ()],), list(NOTES), None, ((0, "list", "old"),), ((0, "page", ("list", "old")),)):
            self.assertIs(is_book((PLAN, DAYS, notes, ())), False, notes)
        for seen in ((((0, "conf"), (0, "conf")),), (((0, "old"), (0, "conf")),), (((0, "conf"), (1, "list")),), (((0, "conf"), (3, "conf")),),
                     (((0, "conf"), (0, "none")),), (((0, "list"), (0, "old")), ((0, "conf"), (0, "list"))), (((0, "conf"), (False, "list")),),
                     (((0, "conf"), (0, "list"), (0, "old")),), [((0, "conf"), (0, "list"))], (((0, "conf"), [0, "list"]),), (((0, "conf"), (0, "list")),) * 2,
                     (((-1, "conf"), (0, "list")),), None):
            self.assertIs(is_book((PLAN, DAYS, NOTES, seen)), False, seen)
        for bad in (BOOK[:3], (*BOOK, ()), list(BOOK), (PLAN, (), NOTES, ()), (PLAN[:1], DAYS, (), ()), (PLAN[::-1], DAYS, NOTES, ()),
                    ((("a", ("a",), ()),), ((),), (), ())):
            self.assertIs(is_book(bad), False, bad)
        whole = (PLAN, DAYS, NOTES, (((0, "conf"), (0, "list")),))
        for bad in spoiled(whole):
            self.assertIs(is_book(bad), False, bad)
        for thing in PLAIN:
            self.assertIs(is_book(thing), False, thing)


class Agreeing(unittest.TestCase):
    def spoiled_book(self, rng, book):
        """The BOOK with other NOTES or SEEN pairs here and there, still a BOOK."""
        plan, days, notes, seen = book
        mays = {asker[0]: asker[2] for asker in plan}
        notes = tuple((day, sheet, tuple(rng.sample(mays[sheet], rng.randint(0, len(mays[sheet])))) if rng.random() < 0.5 else row)
                      for day, sheet, row in notes)
        row = [(day, sheet) for day in range(len(days)) for sheet in asklooks.unmade(plan)] + [note[:2] for note in notes]
        if len(row) > 1 and rng.random() < 0.6:
            seen = tuple(sorted({*seen, tuple(sorted(rng.sample(row, 2)))}))
        return plan, days, notes, seen

    def test_drawn(self):
        rng, yes, no = random.Random(151), 0, 0
        for book in BOOKS:
            self.assertIs(book_agrees(book), True)
            for _ in range(3):
                other = self.spoiled_book(rng, book)
                if not is_book(other):
                    continue
                expected = asklooks.agrees(other)
                self.assertIs(book_agrees(other), expected, other)
                if expected:
                    # The WORLD that is nearly free shows it.
                    worlds = [asklooks.some_world(rng, other, 10 ** 9, 0.5) for _ in range(3)]
                    self.assertTrue(any(asklooks.did(other, world) for world in worlds))
                    yes += 1
                else:
                    worlds = [asklooks.some_world(rng, other, many, 0.5) for many in (1, 2, 9)]
                    self.assertFalse(any(world is not None and asklooks.did(other, world) for world in worlds))
                    no += 1
        self.assertGreater(yes, 60)
        self.assertGreater(no, 60)

    def test_by_hand(self):
        one = (("a", ("x",), ("y", "z")),)
        same, apart = ((("x", "m"), ("y", "n"), ("z", "k")), (("x", "m"), ("y", "l"), ("z", "k"))), (((0, "x"), (1, "x")),)
        unlike = ((("x", "m"), ("y", "n"), ("z", "k")), (("x", "o"), ("y", "n"), ("z", "k")))
        for first, second, days, seen, expected in (
                ((), (), same, (), True), ((), ("y",), same, (), False), (("y",), ("z",), same, (), False), (("y",), ("y",), same, (), True),
                (("y",), ("y", "z"), same, (), True), (("z",), ("z", "y"), same, (), False), (("y", "z"), ("z", "y"), same, (), False),
                ((), ("y",), unlike, (), True), (("y",), ("z",), unlike, (), True), ((), ("y",), unlike, apart, False),
                (("z",), ("y",), unlike, apart, False), (("y",), ("y", "z"), unlike, apart, False), (("y",), ("y", "z"), unlike, (), True)):
            book = (one, days, ((0, "a", first), (1, "a", second)), seen)
            self.assertIs(is_book(book), True)
            self.assertIs(book_agrees(book), expected, book)
        day = LATE[1][:1]
        self.assertIs(book_agrees((RING, day, ((0, "a", ("b",)), (0, "b", ("a",))), ())), False)
        self.assertIs(book_agrees((RING, day, ((0, "a", ()), (0, "b", ("a",))), ())), True)
        mixed = (("a", ("b",), ()), ("b", (), ("a",)))
        self.assertIs(book_agrees((mixed, ((),), ((0, "a", ()), (0, "b", ("a",))), ())), False)
        # What was read came to hold the same by other NOTES, so what is done then is at odds.
        chain = (("a", ("x",), ()), ("b", ("a",), ("x",)))
        days = ((("x", "m"),), (("x", "m"),), (("x", "n"),))
        self.assertIs(book_agrees((chain, days, ((0, "a", ()), (0, "b", ()), (1, "a", ()), (1, "b", ("x",))), ())), False)
        notes = ((0, "a", ()), (0, "b", ()), (2, "a", ()), (2, "b", ("x",)))
        self.assertIs(book_agrees((chain, days, notes, ())), True)
        self.assertIs(book_agrees((chain, days, notes, (((0, "a"), (2, "a")),))), False)
        self.assertIs(book_agrees((chain, days, notes, (((0, "x"), (2, "x")),))), False)
        self.assertIs(book_agrees((chain, days, notes, (((0, "b"), (2, "b")),))), True)


class Ways(unittest.TestCase):
    def test_beside_many_askworlds(self):
        sure = open_ways = ended = 0
        for at, book in enumerate(BOOKS):
            worlds = asklooks.agreeing_worlds(at, book)
            for day, sheet in asklooks.spots(book):
                reads, ends = way_of(book, day, sheet)
                lot = can_read(book, day, sheet)
                self.assertEqual(lot, tuple(sorted(set(lot))))
                if sheet not in asklooks.made(book[0]):
                    self.assertEqual(((reads, ends), lot), (((), True), ()))
                    continue
                for number, (world, days) in enumerate(worlds):
                    row, came = days[day].reads[sheet], sheet in days[day].ends
                    self.assertTrue(set(row) <= set(lot))
                    self.assertEqual(row[:len(reads)], reads[:len(row)])
                    if came:
                        self.assertGreaterEqual(len(row), len(reads))
                        self.assertTrue(row == reads or not ends)
                        # In the first WORLD nobody asks for more than it must, in the next one for all that it may.
                        self.assertTrue(number != 0 or row == reads)
                        self.assertTrue(number != 1 or set(row) == set(lot))
                sure += len(reads) > len(dict((asker[0], asker[1]) for asker in book[0])[sheet])
                open_ways += not ends
                ended += ends and len(lot) > 0
        self.assertGreater(min(sure, open_ways, ended), 80)

    def test_by_hand(self):
        self.assertEqual(way_of(BOOK, 0, "page"), (("conf", "list"), True))
        self.assertEqual(way_of(BOOK, 0, "list"), (("src",), True))
        self.assertEqual(way_of(BOOK, 2, "list"), (("src",), False))
        self.assertEqual((way_of(BOOK, 0, "src"), can_read(BOOK, 0, "src")), (((), True), ()))
        self.assertEqual((can_read(BOOK, 1, "page"), can_read(BOOK, 2, "list")), (("conf", "list"), ("old", "src")))
        # All that may be asked for was read: it surely ends.
        self.assertEqual(way_of((PLAN, DAYS, (), ()), 0, "page"), (("conf",), False))
        nothing = (("a", ("x", "x"), ()), ("b", (), ()))
        days = ((("x", "m"),),)
        self.assertEqual([way_of((nothing, days, (), ()), 0, sheet) for sheet in "ab"], [(("x", "x"), True), ((), True)])
        one = (("a", ("x",), ("y",)),)
        marks = ((("x", "m"), ("y", "n")), (("x", "m"), ("y", "k")), (("x", "o"), ("y", "n")))
        book = (one, marks, ((0, "a", ("y",)),), ())
        self.assertEqual([way_of(book, day, "a") for day in range(3)], [(("x", "y"), True), (("x", "y"), True), (("x",), False)])
        self.assertEqual(way_of((*book[:3], (((0, "x"), (2, "x")),)), 2, "a"), (("x", "y"), True))
        self.assertEqual([note_for(book, day, "a") for day in range(3)], [(0, "a", ("y",)), None, None])

    def test_as_if_what_is_waited_for_came(self):
        """On day 1 a can fail: what b does behind it is not known, but that it asks for it is."""
        self.assertEqual(way_of(LATE, 1, "b"), (("y", "a"), True))
        self.assertEqual(can_read(LATE, 1, "b"), ("a", "y"))
        more = (("a", ("x",), ("b",)), ("b", ("a",), ("y",)))
        book = (more, ((("x", "m"), ("y", "n")),), (), ())
        self.assertEqual(failing(book, 0), ("a", "b"))
        self.assertEqual(way_of(book, 0, "b"), (("a",), False))
        self.assertEqual(can_read(book, 0, "b"), ("a", "y"))


class Failing(unittest.TestCase):
    def test_beside_many_askworlds(self):
        fails = 0
        for at, book in enumerate(BOOKS):
            worlds = asklooks.agreeing_worlds(at + 1000, book)
            for day in range(len(book[1])):
                told = failing(book, day)
                self.assertEqual(told, tuple(sorted(set(told))))
                for sheet in asklooks.sheets(book[0]):
                    self.assertIs(can_fail(book, day, sheet), sheet in told)
                    for _, days in worlds:
                        self.assertTrue(sheet in told or sheet in days[day].ends)
                fails += len(told) > 0
        self.assertGreater(fails, 60)

    def test_classes(self):
        several = 0
        for at, book in enumerate(BOOKS):
            lots = asked_classes(book)
            row = [spot for spot in asklooks.spots(book) if not can_fail(book, *spot)]
            self.assertEqual(sorted(spot for lot in lots for spot in lot), row)
            self.assertEqual(lots, tuple(sorted(tuple(sorted(lot)) for lot in lots)))
            table = {spot: number for number, lot in enumerate(lots) for spot in lot}
            worlds = asklooks.agreeing_worlds(at + 2000, book)
            for number, (_, days) in enumerate(worlds):
                for one in row:
                    for other in row:
                        same = days[one[0]].ends[one[1]] == days[other[0]].ends[other[1]]
                        self.assertTrue(same or table[one] != table[other])
                        # Where numbers are nearly free and all is asked for, nothing else is the same.
                        self.assertTrue(number != 1 or same == (table[one] == table[other]))
            for one in row[::2]:
                for other in row:
                    self.assertIs(is_alike(book, one, other), table[one] == table[other])
            several += sum(1 for lot in lots if len({sheet for _, sheet in lot}) > 1)
        self.assertGreater(several, 20)

    def test_notes_that_are_right(self):
        found = others = 0
        for at, book in enumerate(BOOKS):
            firsts = {asker[0]: asker[1] for asker in book[0]}
            worlds = asklooks.agreeing_worlds(at + 3000, book)
            for day, sheet in asklooks.spots(book):
                right = []
                for note in book[2]:
                    if note[1] == sheet and all(self.is_done(days, day, note, firsts) for _, days in worlds):
                        right.append(note)
                told = note_for(book, day, sheet)
                self.assertEqual(told, min(right, default=None))
                found += told is not None
                others += told is not None and told[0] != day
        self.assertGreater(found, 200)
        self.assertGreater(others, 100)

    def is_done(self, days, day, note, firsts):
        """Whether in this WORLD the SPOT of this DAY reads what was noted, holding the same."""
        row = (*firsts[note[1]], *note[2])
        if note[1] not in days[day].ends or days[day].reads[note[1]] != row:
            return False
        return all(days[day].ends[one] == days[note[0]].ends[one] for one in row)

    def test_by_hand(self):
        self.assertEqual(asked_classes(BOOK)[0], ((0, "conf"), (1, "conf")))
        self.assertIn(((0, "page"), (1, "page")), asked_classes(BOOK))
        self.assertIn(((2, "page"),), asked_classes(BOOK))
        self.assertEqual(failing(LATE, 1), ("a", "b"))
        self.assertEqual(asked_classes(LATE), (((0, "a"),), ((0, "b"),), ((0, "x"),), ((0, "y"), (1, "y")), ((1, "x"),)))
        self.assertIs(is_alike(BOOK, (0, "page"), (1, "page")), True)
        self.assertIs(is_alike(BOOK, (0, "page"), (2, "page")), False)
        self.assertIs(is_alike(BOOK, (2, "page"), (2, "page")), True)
        # Whoever needs one that can fail can fail, too; one that is beside it cannot.
        plan = (*RING, ("c", ("a",), ()), ("d", ("c",), ()), ("e", ("x",), ()))
        self.assertEqual(failing((plan, *LATE[1:]), 1), ("a", "b", "c", "d"))
        self.assertEqual(failing((plan, *LATE[1:]), 0), ())
        # Nothing noted: what may be asked for makes the ring.
        self.assertEqual(failing((plan, LATE[1], (), ()), 0), ("a", "b", "c", "d"))
        self.assertEqual(failing((RING[:1], ((("b", "m"), ("x", "n")),), (), ()), 0), ())


class Errors(unittest.TestCase):
    def test_no_spot(self):
        for spot in ((3, "page"), (-1, "page"), (0, "none"), (10 ** 40, "conf"), (-1, "none")):
            for name in ("way_of", "can_read", "can_fail", "note_for"):
                with self.assertRaises(NoSpot) as caught:
                    getattr(asked, name)(BOOK, *spot)
                self.assertEqual(caught.exception.spot, spot)
            for one, other in ((spot, (0, "page")), ((0, "page"), spot), (spot, (9, "none"))):
                with self.assertRaises(NoSpot) as caught:
                    is_alike(BOOK, one, other)
                self.assertEqual(caught.exception.spot, spot)

    def test_not_sound_behind_that(self):
        for one, other in (((1, "a"), (0, "a")), ((0, "a"), (1, "a")), ((1, "b"), (1, "b")), ((1, "x"), (1, "b"))):
            self.assertRaises(NotSound, is_alike, LATE, one, other)
        self.assertRaises(NoSpot, is_alike, LATE, (1, "a"), (2, "a"))
        self.assertIs(is_alike(LATE, (1, "y"), (0, "y")), True)

    def test_no_number(self):
        for day in (2, -1, 10 ** 40):
            with self.assertRaises(NoNumber) as caught:
                failing(LATE, day)
            self.assertEqual(caught.exception.number, day)
