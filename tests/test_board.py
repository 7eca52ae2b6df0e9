"""board.py: a Board, its deeds and how they are taken back."""

import copy
import inspect
import random
import unittest

from reportalike import board as module
from reportalike.board import Board
from reportalike.errors import NoNumber, NoPaper, NoSheet, NoSpot, NothingDone
from reportalike.free import alike, apart_paper, classes_of, free_world, is_apart_paper
from reportalike.runs import is_seen, new_run
from tests import drawn, looks
from tests.things import holds_list, listed

PLAN = (("s", "f", ("a",), "b", ()), ("t", "f", ("b",), "c", (("deep", 1),)))
A, B, C = [(0, sheet) for sheet in "abc"]


class Model:
    """The test's own Board: all states behind one another."""

    def __init__(self, states=(((), ()),)):
        self.states = list(states)

    def runs(self):
        return self.states[-1][0]

    def seen(self):
        return self.states[-1][1]

    def put(self, runs, seen):
        self.states.append((tuple(runs), tuple(sorted(seen))))

    def tell(self, run):
        self.put((*self.runs(), run), self.seen())

    def turn(self, place, run):
        """Puts a RUN in this place; returns the pairs that fall."""
        runs = list(self.runs())
        runs[place] = run
        there = set(looks.spots(runs))
        fallen = tuple(pair for pair in self.seen() if not set(pair) <= there)
        self.put(runs, set(self.seen()) - set(fallen))
        return fallen


def drawn_run(rng):
    chance = rng.random()
    if chance < 0.5:
        return drawn.run(rng, sheets="abc", marks="mn", most=3)
    return drawn.wide_run(rng, 3) if chance < 0.8 else drawn.run(rng, dense=True)


class Stories(unittest.TestCase):
    def same_state(self, board, model):
        runs, seen = model.runs(), model.seen()
        self.assertEqual(repr((board.runs(), board.seen())), repr((runs, seen)))
        self.assertEqual((len(board), board.deeds()), (len(runs), len(model.states) - 1))
        self.assertEqual(board.classes(), classes_of(runs, seen))
        self.assertIs(is_seen(runs, board.seen()), True)
        world = board.world()
        self.assertEqual(world, free_world(runs, seen))
        lead, held = looks.class_of(runs, seen), looks.numbers(world, runs)
        row = looks.spots(runs)
        for one, other in zip(row, row[1:]):
            self.assertIs(board.alike(one, other), lead[one] == lead[other])
            if lead[one] != lead[other]:
                self.assertNotEqual(held[one], held[other])
                self.assertEqual(board.paper(one, other), apart_paper(runs, seen, one, other))
            else:
                self.assertRaises(NoPaper, board.paper, one, other)

    def test_drawn_stories(self):
        found = {"fell": 0, "undone": 0, "refused": 0, "same": 0, "again": 0}
        for at in range(60):
            rng, board, model = random.Random(250 + at), Board(), Model()
            self.same_state(board, model)
            for _ in range(rng.randint(8, 26)):
                self.one_deed(rng, board, model, found)
                self.same_state(board, model)
                self.refusals(rng, board, model, found)
            twin, states = board.twin(), list(model.states)
            self.same_state(twin, model)
            for _ in range(6):
                self.one_deed(rng, board, model, found)
            self.same_state(twin, Model(states))
            other = Model(states)
            for _ in range(6):
                self.one_deed(rng, twin, other, found)
            self.same_state(board, model)
            self.same_state(twin, other)
            self.undo_all(twin, other)
            self.undo_all(board, model)
        self.assertGreater(min(found.values()), 25, found)

    def undo_all(self, board, model):
        while len(model.states) > 1:
            self.assertIsNone(board.undo())
            model.states.pop()
            self.same_state(board, model)
        self.assertRaises(NothingDone, board.undo)
        self.same_state(board, model)

    def one_deed(self, rng, board, model, found):
        runs, seen, chance = model.runs(), model.seen(), rng.random()
        row = looks.spots(runs)
        if not runs or (chance < 0.15 and len(runs) < 4):
            run = drawn_run(rng)
            self.assertEqual(board.tell(*self.maybe_listed(rng, run)), len(runs))
            model.tell(run)
        elif chance < 0.3:
            self.assert_undone(board, model, found)
        elif chance < 0.7 and row and len(seen) < 12:
            one, other = rng.choice(row), rng.choice(row)
            one, other = rng.choice(seen)[::-1] if seen and rng.random() < 0.15 else (one, other)
            lead = looks.class_of(runs, seen)
            self.assertIs(board.see(*self.maybe_listed(rng, (one, other))), lead[one] == lead[other])
            model.put(runs, set(seen) | ({(min(one, other), max(one, other))} if one != other else set()))
            found["same"] += one == other
            found["again"] += model.seen() == seen and one != other
        elif chance < 0.78 and seen:
            place = rng.randrange(len(seen))
            self.assertEqual(board.doubt(place), seen[place])
            model.put(runs, set(seen) - {seen[place]})
        else:
            found["fell"] += bool(self.turned(rng, board, model))

    def assert_undone(self, board, model, found):
        if len(model.states) == 1:
            self.assertRaises(NothingDone, board.undo)
        else:
            self.assertIsNone(board.undo())
            model.states.pop()
            found["undone"] += 1

    def maybe_listed(self, rng, row):
        return listed(row) if rng.random() < 0.5 else row

    def turned(self, rng, board, model):
        """One of recount, turn, replan."""
        place = rng.randrange(len(model.runs()))
        plan, variant, counts = model.runs()[place]
        new, turned_to = drawn_run(rng), drawn.some_of(rng, ("u", "v"))
        word = rng.choice(("recount", "turn", "replan"))
        counts_new = tuple((sheet, rng.choice("mnk")) for sheet, _ in counts if sheet in looks.needed(plan, variant) or rng.random() < 0.5)
        if word == "recount":
            fell = board.recount(place, *self.maybe_listed(rng, (counts_new,)))
            told = model.turn(place, (plan, variant, counts_new))
        elif word == "turn":
            needed = sorted({*looks.needed(plan, turned_to), *[sheet for sheet in "abc" if rng.random() < 0.2]})
            counts_new = tuple((sheet, rng.choice("mnk")) for sheet in needed)
            fell = board.turn(place, *self.maybe_listed(rng, (turned_to, counts_new)))
            told = model.turn(place, (plan, turned_to, counts_new))
        else:
            if not set(looks.needed(new[0], variant)) <= set(dict(counts)):
                new = ((),)
            fell = board.replan(place, *self.maybe_listed(rng, (new[0],)))
            told = model.turn(place, (new[0], variant, counts))
        self.assertEqual(repr(fell), repr(told))
        return fell

    def refusals(self, rng, board, model, found):
        """Deeds that are refused, and leave all as it was."""
        runs, seen = model.runs(), model.seen()
        reading = (("p", "f", ("zz", "zy"), "x", ()),)
        for place in (len(runs), -1, -len(runs) - 1, 10 ** 20):
            self.error(NoNumber, place, board.recount, place, ())
            self.error(NoNumber, place, board.turn, place, (), ())
            self.error(NoNumber, place, board.replan, place, reading)
        for place in (len(seen), -1):
            self.error(NoNumber, place, board.doubt, place)
        self.error(NoSheet, "zy", board.tell, reading, (), ())
        row = looks.spots(runs)
        spots = [(len(runs), "a"), (-1, "a"), (0, "none")]
        for spot in spots:
            self.error(NoSpot, spot, board.see, spot, (7, "q"))
            self.error(NoSpot, spot, board.alike, list(spot), (7, "q"))
            self.error(NoSpot, spot, board.paper, spot, (7, "q"))
            if row:
                self.error(NoSpot, spot, board.see, row[0], list(spot))
                self.error(NoSpot, spot, board.alike, row[0], spot)
                self.error(NoSpot, spot, board.paper, row[0], spot)
        if runs:
            place = rng.randrange(len(runs))
            self.error(NoSheet, "zy", board.replan, place, reading)
            needed = looks.needed(runs[place][0], runs[place][1])
            if needed:
                self.error(NoSheet, needed[0], board.recount, place, ())
                self.error(NoSheet, needed[0], board.turn, place, runs[place][1], ())
                found["refused"] += 1
        self.assertEqual(repr((board.runs(), board.seen(), board.deeds())), repr((runs, seen, len(model.states) - 1)))

    def error(self, kind, kept, function, *arguments):
        with self.assertRaises(kind) as caught:
            function(*arguments)
        self.assertEqual(repr(list(vars(caught.exception).values())), repr([kept]))


class Boards(unittest.TestCase):
    def test_no_runs(self):
        board = Board()
        self.assertEqual((board.runs(), board.seen(), len(board), board.deeds(), board.classes(), board.world()), ((), (), 0, 0, (), free_world((), ())))
        for call in (board.alike, board.paper, board.see):
            with self.assertRaises(NoSpot) as caught:
                call([0, "a"], [1, "a"])
            self.assertEqual(caught.exception.spot, (0, "a"))
        self.assertRaises(NothingDone, board.undo)
        self.assertRaises(NoNumber, board.doubt, 0)

    def test_what_falls_in_order(self):
        board = Board()
        board.tell(PLAN, ("deep",), (("a", "m"), ("k", "n")))
        board.tell(PLAN, ("deep",), (("a", "n"),))
        for one, other in (((1, "c"), C), (B, C), (A, (0, "k")), ((1, "a"), A)):
            board.see(one, other)
        self.assertEqual(board.seen(), ((A, (0, "k")), (A, (1, "a")), (B, C), (C, (1, "c"))))
        self.assertEqual(board.turn(0, (), (("a", "m"),)), ((A, (0, "k")), (B, C), (C, (1, "c"))))
        self.assertEqual(board.seen(), ((A, (1, "a")),))
        self.assertEqual(board.replan(1, ()), ())
        board.undo(), board.undo()
        # c is told by the COUNTS there: so it stays a SPOT, and the pair stays, too.
        self.assertEqual(board.turn(0, (), (("a", "m"), ("c", "o"), ("k", "k"))), ())
        self.assertEqual(board.recount(0, (("a", "m"), ("c", "o"))), ((A, (0, "k")),))
        self.assertEqual(board.deeds(), 8)

    def test_deeds_that_change_nothing(self):
        board = Board()
        board.tell(PLAN, (), (("a", "m"),))
        run = board.runs()[0]
        self.assertIs(board.see(A, A), True)
        self.assertIs(board.see(A, B), False)
        self.assertIs(board.see(B, A), True)
        self.assertEqual(board.recount(0, run[2]), ())
        self.assertEqual(board.turn(0, run[1], run[2]), ())
        self.assertEqual(board.replan(0, run[0]), ())
        self.assertEqual((board.seen(), board.deeds()), (((A, B),), 7))
        for left in (6, 5, 4, 3, 2, 1):
            board.undo()
            self.assertEqual((board.runs(), board.seen(), board.deeds()), ((run,), ((A, B),) if left > 2 else (), left))
        board.undo()
        self.assertEqual((board.runs(), board.deeds()), ((), 0))

    def test_seen_alike_ahead_by_what_follows(self):
        board = Board()
        board.tell(PLAN, ("deep",), (("a", "m"),))
        self.assertIs(board.see(A, C), False)
        self.assertIs(board.see(B, A), False)
        self.assertIs(board.see(B, C), True)
        self.assertEqual(len(board.seen()), 3)

    def test_equality(self):
        one, other = Board(), Board()
        self.assertTrue(one == other and not one != other)
        one.tell(PLAN, (), (("a", "m"),))
        self.assertTrue(one != other and not one == other)
        other.tell((), ("deep",), ())
        other.tell(PLAN, (), (("a", "n"),))
        self.assertFalse(one == other)
        other.undo()
        other.replan(0, ())
        other.turn(0, (), (("a", "m"),))
        other.replan(0, listed(PLAN))
        self.assertTrue(one == other and other == one)
        self.assertNotEqual(one.deeds(), other.deeds())
        one.see(A, B)
        self.assertFalse(one == other)
        other.see(B, A)
        self.assertTrue(one == other)
        other.see(A, A)
        self.assertTrue(one == other)
        one.doubt(0)
        self.assertFalse(one == other)
        for thing in (None, 0, "", (), [], (one.runs(), one.seen()), Board, object(), {}):
            self.assertIs(one == thing, False)
            self.assertIs(one != thing, True)

    def test_iteration(self):
        board = Board()
        for _ in range(2):
            self.assertRaises(TypeError, iter, board)
            self.assertRaises(TypeError, list, board)
            with self.assertRaises(TypeError):
                A in board
            board.tell(PLAN, (), (("a", "m"),))

    def test_twins_share_nothing(self):
        board = Board()
        board.tell(PLAN, (), (("a", "m"),))
        board.see(A, B)
        twin = board.twin()
        self.assertIs(type(twin), Board)
        self.assertTrue(twin == board and twin is not board and twin.deeds() == 2)
        twin.undo()
        self.assertEqual((board.seen(), board.deeds(), twin.seen(), twin.deeds()), (((A, B),), 2, (), 1))
        board.doubt(0)
        board.tell((), (), ())
        self.assertEqual((len(board), len(twin), board.deeds(), twin.deeds()), (2, 1, 4, 1))
        board.undo(), board.undo()
        self.assertEqual((board.seen(), board.deeds()), (((A, B),), 2))
        twin.undo()
        self.assertRaises(NothingDone, twin.undo)
        self.assertEqual(len(board), 1)

    def test_arguments_are_copied(self):
        board = Board()
        plan, variant, counts = listed(PLAN), ["deep"], [["a", "m"]]
        before = copy.deepcopy((plan, variant, counts))
        board.tell(plan, variant, counts)
        one, other = [0, "a"], [0, "b"]
        board.see(one, other)
        self.assertEqual((plan, variant, counts, one, other), (*before, [0, "a"], [0, "b"]))
        plan[0][2].append("z")
        plan.pop(), variant.append("more"), counts[0].reverse(), one.reverse(), other.clear()
        self.assertEqual(board.runs(), ((PLAN, ("deep",), (("a", "m"),)),))
        self.assertEqual(board.seen(), ((A, B),))
        more = [["a", "n"]]
        board.recount(0, more)
        more.append(["b", "n"])
        self.assertEqual(board.runs()[0][2], (("a", "n"),))
        self.assertFalse(any(holds_list(value) for value in (board.runs(), board.seen(), board.classes(), board.world())))

    def test_by_names(self):
        board = Board()
        self.assertEqual(board.tell(plan=PLAN, variant=(), counts=(("a", "m"),)), 0)
        self.assertEqual(board.recount(place=0, counts=(("a", "n"),)), ())
        self.assertEqual(board.turn(place=0, variant=("deep",), counts=(("a", "n"),)), ())
        self.assertEqual(board.replan(place=0, plan=PLAN[:1]), ())
        self.assertIs(board.see(one=A, other=B), False)
        self.assertIs(board.alike(one=A, other=B), True)
        self.assertEqual(board.doubt(place=0), (A, B))
        self.assertIs(is_apart_paper(board.runs(), (), A, B, board.paper(one=A, other=B)), True)
        for name in "runs seen classes alike world paper tell recount turn replan see doubt undo deeds twin __len__ __eq__".split():
            self.assertTrue(inspect.isfunction(vars(Board)[name]), name)
        self.assertEqual(Board.__module__, module.__name__)

    def test_new_run_of_what_is_told(self):
        board = Board()
        board.tell(PLAN, ("deep", "x"), (("a", "m"), ("q", "n")))
        self.assertEqual(board.runs(), (new_run(PLAN, ("deep", "x"), (("a", "m"), ("q", "n"))),))
        self.assertIs(alike(board.runs(), board.seen(), A, B), False)


if __name__ == "__main__":
    unittest.main()
