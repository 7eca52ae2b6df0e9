"""kept.py: what is kept, and what is made again behind a turn."""

import random
import unittest
from itertools import permutations, product

from reportalike.kept import (
    forced_kept, least_made, least_promise, made_again, most_made, needless_kept, some_kept, turn_against, turn_asking,
)
from tests import drawn, looks

PLAN = (("a", "f", ("x",), "p", ()), ("b", "g", ("y",), "q", ()), ("c", "h", ("p", "q"), "r", ()))
RUN = (PLAN, (), (("x", "m"), ("y", "n")))
DEEP = (("a", "f", ("x",), "p", ()), ("b", "f", ("p",), "q", ()), ("c", "g", ("q", "y"), "r", ()), ("d", "g", ("r", "x"), "s", ()),
        ("e", "h", (), "t", ()), ("off", "f", ("x",), "u", (("more", 1),)))
LONG = (DEEP, (), (("k", "m"), ("s", "m"), ("x", "m"), ("y", "n")))


def case(rng, most=4):
    if rng.random() < 0.7:
        run = drawn.wide_run(rng, most)
    else:
        run = drawn.run(rng, most=most, dense=True)
    made = sorted({step[3] for step in looks.working(run[0], run[1])})
    needed = looks.needed(run[0], run[1])
    seen = drawn.seen(rng, (run,), most=2)
    goals = tuple(sheet for sheet in made if rng.random() < 0.5) or tuple(made[-1:])
    return run, seen, goals, drawn.some_of(rng, made), drawn.some_of(rng, needed) if rng.random() < 0.5 else needed


CASES = drawn.draws(120, 160, case)


def made_of(run):
    return sorted({step[3] for step in looks.working(run[0], run[1])})


def hangs_on(run, sheet):
    step = looks.maker_of(run, sheet)
    return {sheet} if step is None else {one for read in step[2] for one in hangs_on(run, read)}


def again(run, seen, goals, kept, turn):
    """The test's own look at what is made again."""
    table = looks.class_of((run,), seen)
    names, wanted = set(), list(goals)
    for sheet in wanted:
        same = any(table[(0, sheet)] == table[(0, one)] for one in kept)
        if not same or hangs_on(run, sheet) & set(turn):
            step = looks.maker_of(run, sheet)
            names.add(step[0])
            wanted.extend(read for read in step[2] if looks.maker_of(run, read) and read not in wanted)
    return tuple(sorted(names))


def turns(may, many):
    return [turn for turn in looks.subsets(may) if len(turn) <= many]


def most(run, seen, goals, kept, may, many):
    return max(len(again(run, seen, goals, kept, turn)) for turn in turns(may, many))


def lots_that_promise(run, seen, goals, may, many, limit):
    return [kept for kept in looks.subsets(made_of(run)) if most(run, seen, goals, kept, may, many) <= limit]


class MadeAgain(unittest.TestCase):
    def test_drawn(self):
        found = 0
        for run, seen, goals, kept, may in CASES:
            for turn in turns(looks.needed(run[0], run[1]), 3):
                expected = again(run, seen, goals, kept, turn)
                self.assertEqual(made_again(run, seen, goals, kept, turn), expected)
                found += 0 < len(expected) < len(made_of(run))
        self.assertGreater(found, 150)

    def test_turns_of_several_and_of_each_alone(self):
        for run, seen, goals, kept, may in CASES:
            for turn in turns(may, 3):
                lots = [made_again(run, seen, goals, kept, ())] + [made_again(run, seen, goals, kept, (sheet,)) for sheet in turn]
                self.assertEqual(made_again(run, seen, goals, kept, turn), tuple(sorted({name for lot in lots for name in lot})))

    def test_what_is_found_is_what_the_step_would_give(self):
        checked = 0
        for run, seen, goals, kept, may in CASES:
            for turn in turns(may, 2):
                counts = tuple((sheet, "new" + sheet if sheet in turn else mark) for sheet, mark in run[2])
                table = looks.class_of((run, (run[0], run[1], counts)), seen)
                gone = made_again(run, seen, goals, kept, turn)
                wanted = {*goals, *[read for step in run[0] if step[0] in gone for read in step[2]]} & set(made_of(run))
                for sheet in wanted:
                    if looks.maker_of(run, sheet)[0] not in gone:
                        self.assertTrue(any(table[(1, sheet)] == table[(0, one)] for one in kept))
                        checked += 1
        self.assertGreater(checked, 80)

    def test_by_hand(self):
        self.assertEqual(made_again(LONG, (), (), (), ("x",)), ())
        self.assertEqual(made_again(LONG, (), ("s",), (), ()), ("a", "b", "c", "d"))
        self.assertEqual(made_again(LONG, (), ("s", "t"), (), ()), ("a", "b", "c", "d", "e"))
        self.assertEqual(made_again(LONG, (), ("s",), ("s",), ()), ())
        self.assertEqual(made_again(LONG, (), ("s",), ("q", "s"), ("y",)), ("c", "d"))
        self.assertEqual(made_again(LONG, (), ("s",), ("q", "s"), ("x",)), ("a", "b", "c", "d"))
        self.assertEqual(made_again(LONG, (), ("s", "t"), ("t",), ("x", "y")), ("a", "b", "c", "d"))
        self.assertEqual(made_again(LONG, (), ("r",), ("s",), ()), ("a", "b", "c"))
        # p and x hold the same, so what q holds is what p holds: q is found by p, but not behind a turn.
        same = (((0, "p"), (0, "x")),)
        self.assertEqual(made_again(LONG, same, ("q",), ("p",), ()), ())
        self.assertEqual(made_again(LONG, same, ("q",), ("p",), ("x",)), ("a", "b"))
        self.assertEqual(made_again(LONG, same, ("q",), (), ()), ("a", "b"))
        # t was seen to hold what s holds: behind a turn s still tells of t, which hangs on nothing.
        self.assertEqual(made_again(LONG, (((0, "s"), (0, "t")),), ("t",), ("s",), ("x", "y")), ())


class Promises(unittest.TestCase):
    def test_most_made_and_turn_against(self):
        rng, against = random.Random(121), 0
        for run, seen, goals, kept, may in CASES:
            for many in (0, 1, 2, 9):
                worst = most(run, seen, goals, kept, may, many)
                self.assertEqual(most_made(run, seen, goals, kept, may, many), worst)
                for limit in {0, max(worst - 1, 0), worst, worst + 1, 10 ** 40}:
                    turn = turn_against(run, seen, goals, kept, may, many, limit)
                    if worst <= limit:
                        self.assertIsNone(turn)
                        continue
                    self.assertIn(turn, turns(may, many))
                    self.assertGreater(len(again(run, seen, goals, kept, turn)), limit)
                    self.assertEqual(turn_against(run, seen, goals, kept, may, many, limit), turn)
                    against += len(turn) > 0
        self.assertGreater(against, 60)

    def test_all_sets_of_made_sheets(self):
        none = some = forced = 0
        for run, seen, goals, kept, may in CASES[:110]:
            table, made = looks.class_of((run,), seen), made_of(run)
            for many in (0, 1, 2):
                least = min(most(run, seen, goals, lot, may, many) for lot in looks.subsets(made))
                self.assertEqual(least_promise(run, goals, may, many), least)
                for limit in {max(least - 1, 0), least, least + 1}:
                    lots = lots_that_promise(run, seen, goals, may, many, limit)
                    told = some_kept(run, seen, goals, may, many, limit)
                    if not lots:
                        self.assertIsNone(told)
                        none += 1
                    else:
                        self.assertIn(told, lots)
                        self.assertEqual(len(told), min(len(lot) for lot in lots))
                        self.assertEqual(some_kept(run, seen, goals, may, many, limit), told)
                        some += len(told) > 1
                    own = [sheet for sheet in made if all(
                        any(table[(0, one)] == table[(0, sheet)] for one in lot) for lot in lots)]
                    self.assertEqual(forced_kept(run, seen, goals, may, many, limit), tuple(own))
                    forced += 0 < len(own) < len(made)
        self.assertGreater(none, 20)
        self.assertGreater(some, 20)
        self.assertGreater(forced, 20)

    def test_what_some_kept_promises_by_its_guarantee(self):
        for run, seen, goals, kept, may in CASES:
            base = again(run, seen, goals, (), ())
            makers = {looks.maker_of(run, sheet)[0]: sheet for sheet in made_of(run)}
            for many in (0, 1, 2):
                worst = max(len([name for name in base if hangs_on(run, makers[name]) & set(turn)]) for turn in turns(may, many))
                self.assertEqual(least_promise(run, goals, may, many), worst)

    def test_needless_kept(self):
        found = 0
        for run, seen, goals, kept, may in CASES:
            own = []
            for sheet in kept:
                fewer = tuple(one for one in kept if one != sheet)
                if all(again(run, seen, goals, kept, turn) == again(run, seen, goals, fewer, turn) for turn in looks.subsets(may)):
                    own.append(sheet)
            self.assertEqual(needless_kept(run, seen, goals, kept, may), tuple(own))
            found += 0 < len(own) < len(kept)
        self.assertGreater(found, 10)
        # Each one of two alike SHEETS is needless beside the other one.
        twice = ((("a", "f", ("x",), "p", ()), ("b", "f", ("x",), "q", ())), (), (("x", "m"),))
        self.assertEqual(needless_kept(twice, (), ("p", "q"), ("p", "q"), ("x",)), ("p", "q"))
        self.assertEqual(needless_kept(twice, (), ("p", "q"), ("p",), ("x",)), ())

    def test_edges(self):
        self.assertEqual(most_made(RUN, (), ("r",), (), ("x", "y"), 0), 3)
        self.assertEqual(most_made(RUN, (), ("r",), ("p", "q", "r"), ("x", "y"), 0), 0)
        self.assertEqual(most_made(RUN, (), (), (), ("x", "y"), 2), 0)
        self.assertEqual(turn_against(RUN, (), ("r",), (), ("x", "y"), 0, 2), ())
        self.assertEqual(some_kept(RUN, (), ("r",), ("x", "y"), 0, 3), ())
        self.assertEqual(some_kept(RUN, (), ("r",), ("x", "y"), 0, 0), ("r",))
        self.assertIsNone(some_kept(RUN, (), ("r",), ("x", "y"), 2, 2))
        self.assertEqual(some_kept(RUN, (), ("r",), ("x", "y"), 2, 3), ())
        self.assertEqual(forced_kept(RUN, (), ("r",), ("x", "y"), 2, 2), ("p", "q", "r"))
        self.assertEqual(forced_kept(RUN, (), ("r",), ("x", "y"), 2, 3), ())
        self.assertEqual(forced_kept(RUN, (((0, "q"), (0, "r")),), ("r",), ("x",), 1, 2), ("q", "r"))
        self.assertEqual(forced_kept(RUN, (((0, "q"), (0, "y")),), ("r",), ("x",), 1, 2), ("q",))
        self.assertEqual(least_promise(RUN, ("p", "q"), (), 5), 0)
        empty = ((), (), ())
        self.assertEqual((made_again(empty, (), (), (), ()), most_made(empty, (), (), (), (), 3), some_kept(empty, (), (), (), 3, 0)), ((), 0, ()))

    def test_a_shorter_turn_that_comes_later(self):
        """x alone stands for u and v together, so there is room for y in a turn of two."""
        plan = (("a", "f", ("u", "x"), "p", ()), ("b", "f", ("v", "x"), "q", ()), ("c", "f", ("y",), "r", ()))
        run = (plan, (), (("u", "m"), ("v", "n"), ("x", "k"), ("y", "l")))
        goals = ("p", "q", "r")
        self.assertEqual([most_made(run, (), goals, goals, ("u", "v", "x", "y"), many) for many in range(4)], [0, 2, 3, 3])
        self.assertEqual(turn_against(run, (), goals, goals, ("u", "v", "x", "y"), 2, 2), ("x", "y"))

    def test_at_the_bounds(self):
        plan = tuple(("s" + letter, "f", ("x" + letter, "y" + letter, "z" + letter), "t" + letter, ()) for letter in "abcdefgh")
        run = (plan, (), tuple(sorted((word + letter, word + letter) for word in "xyz" for letter in "abcdefgh")))
        made, needed = made_of(run), looks.needed(plan, ())
        self.assertEqual(most_made(run, (), made, made, needed, 5), 5)
        self.assertEqual(most_made(run, (), made, (), needed, 5), 8)
        self.assertEqual(least_promise(run, made, needed, 24), 8)
        self.assertEqual(some_kept(run, (), made, needed, 5, 5), tuple(made))
        self.assertEqual(len(some_kept(run, (), made, needed, 1, 5)), 4)


class Making(unittest.TestCase):
    def fewest(self, run, seen, goals, kept):
        """By a look at all ways to take STEPS one behind another."""
        table = looks.class_of((run,), seen)
        steps = looks.working(run[0], run[1])
        for many in range(len(steps) + 1):
            for row in permutations(steps, many):
                there = {table[(0, sheet)] for sheet in (*looks.needed(run[0], run[1]), *kept)}
                for step in row:
                    if all(table[(0, read)] in there for read in step[2]):
                        there.add(table[(0, step[3])])
                if all(table[(0, sheet)] in there for sheet in goals):
                    return many
        return None

    def test_least_made(self):
        fewer = 0
        for run, seen, goals, kept, _ in CASES:
            for lot in (kept, ()):
                told = least_made(run, seen, goals, lot)
                self.assertEqual(told, self.fewest(run, seen, goals, lot))
                fewer += told < len(again(run, seen, goals, lot, ()))
        self.assertGreater(fewer, 20)

    def test_by_other_steps_than_its_own(self):
        plan = (("a", "f", ("x",), "p", ()), ("b", "g", ("p",), "q", ()), ("c", "h", ("y",), "r", ()))
        run = (plan, (), (("x", "m"), ("y", "n"), ("z", "o")))
        self.assertEqual(least_made(run, (), ("q",), ()), 2)
        self.assertEqual(least_made(run, (((0, "q"), (0, "r")),), ("q",), ()), 1)
        self.assertEqual(least_made(run, (((0, "p"), (0, "y")),), ("q",), ()), 1)
        # z is told, but not needed: what it holds is not at hand.
        self.assertEqual(least_made(run, (((0, "q"), (0, "z")),), ("q",), ()), 2)
        self.assertEqual(least_made(run, (), ("p", "q", "r"), ("q", "r")), 1)
        self.assertEqual(least_made(run, (), (), ()), 0)


class Asking(unittest.TestCase):
    def drawn_case(self, rng):
        runs = tuple(drawn.wide_run(rng, 3) for _ in range(rng.randint(1, 3)))
        place = rng.randrange(len(runs))
        plan, variant, counts = runs[place]
        runs = (*runs, (plan, variant, tuple((sheet, rng.choice("kmn")) for sheet, _ in counts)))
        back = []
        for sheet in looks.needed(runs[place][0], runs[place][1]):
            if rng.random() < 0.7 and len(back) < 4:
                back.append((sheet, tuple(sorted(rng.sample(("k", "m", "n", "new"), rng.randint(0, 3))))))
        made = made_of(runs[place])
        goals = tuple(sheet for sheet in made if rng.random() < 0.6)
        return runs, drawn.seen(rng, runs, most=2), place, goals, rng.choice(looks.spots(runs)[-4:]), tuple(back)

    def is_right(self, runs, seen, place, goals, spot, turn):
        plan, variant, counts = runs[place]
        new = dict(turn)
        more = (plan, variant, tuple((sheet, new.get(sheet, mark)) for sheet, mark in counts))
        table = looks.class_of((*runs, more), seen)
        return any(table[(len(runs), looks.maker_of(more, sheet)[3])] == table[spot] for sheet in self.on_the_way(more, goals))

    def on_the_way(self, run, goals):
        row = list(goals)
        for sheet in row:
            row.extend(read for read in looks.maker_of(run, sheet)[2] if looks.maker_of(run, read) and read not in row)
        return row

    def test_drawn(self):
        found = none = 0
        for runs, seen, place, goals, spot, back in drawn.draws(122, 320, self.drawn_case):
            ways = [[(), *[((sheet, mark),) for mark in marks]] for sheet, marks in back]
            all_turns = [tuple(pair for part in row for pair in part) for row in product(*ways)]
            for many in (0, 1, 2, 5):
                right = [turn for turn in all_turns if len(turn) <= many and self.is_right(runs, seen, place, goals, spot, turn)]
                told = turn_asking(runs, seen, place, goals, spot, back, many)
                if not right:
                    self.assertIsNone(told)
                    none += 1
                else:
                    self.assertIn(told, right)
                    self.assertEqual(turn_asking(runs, seen, place, goals, spot, back, many), told)
                    found += told != ()
        self.assertGreater(found, 25)
        self.assertGreater(none, 60)

    def test_edges(self):
        late = (PLAN, (), (("x", "k"), ("y", "n")))
        self.assertEqual(turn_asking((RUN, late), (), 0, ("r",), (0, "p"), (), 0), ())
        self.assertIsNone(turn_asking((RUN, late), (), 0, ("r",), (1, "p"), (), 4))
        self.assertIsNone(turn_asking((RUN, late), (), 0, ("r",), (1, "p"), (("x", ("k",)),), 0))
        self.assertIsNone(turn_asking((RUN, late), (), 0, ("r",), (1, "p"), (("x", ()), ("y", ("k",))), 2))
        self.assertEqual(turn_asking((RUN, late), (), 0, ("p",), (1, "p"), (("x", ("k", "z")), ("y", ("k",))), 2)[0], ("x", "k"))
        # p is not on the way to q, and x is not made.
        self.assertIsNone(turn_asking((RUN, late), (), 0, ("q",), (1, "p"), (("x", ("k",)),), 1))
        self.assertIsNone(turn_asking((RUN, late), (), 0, ("r",), (1, "x"), (("x", ("k",)),), 1))
        seen = (((0, "y"), (1, "p")),)
        self.assertIsNone(turn_asking((RUN, late), seen, 0, ("r",), (0, "y"), (("y", ("k",)),), 1))
        self.assertEqual(turn_asking((RUN, late), seen, 0, ("r",), (0, "y"), (("x", ("k",)),), 1), (("x", "k"),))
        two = turn_asking((RUN, (PLAN, (), (("x", "k"), ("y", "o")))), (), 0, ("r",), (1, "r"), (("x", ("k",)), ("y", ("o",))), 2)
        self.assertEqual(two, (("x", "k"), ("y", "o")))


class Numbers(unittest.TestCase):
    def test_great_numbers(self):
        great = 10 ** 40
        self.assertEqual(most_made(RUN, (), ("r",), ("r",), ("x", "y"), great), 3)
        self.assertIsNone(turn_against(RUN, (), ("r",), (), ("x", "y"), great, great))
        self.assertEqual(turn_asking((RUN,), (), 0, ("r",), (0, "r"), (), great), ())
