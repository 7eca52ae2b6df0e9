"""trust.py: SHEETS that may be wrong, and what is sure all the same."""

import random
import unittest

from reportalike.errors import NoSheet, NoSpot
from reportalike.free import alike, free_world
from reportalike.runs import is_run
from reportalike.trust import (
    bad_run, behind_reruns, fewest_checks, fewest_reruns, is_wrong_world, reached, surely_right, wrong_world,
)
from tests import drawn, looks
from tests.things import PLAIN, spoiled

PLAN = (("add", "sum", ("north", "south"), "all", ()), ("cut", "top", ("all",), "best", ()))
RUN = (PLAN, (), (("north", "m"), ("south", "n")))
LETTERS = "abcdefghijklmnopqrstuvwxyz"


def standing(run, bad):
    """The test's own RUN as it stands, with MARKS that nobody has."""
    plan, variant, counts = run
    gone = [step for step in looks.working(plan, variant) if step[3] in bad]
    told = {**dict(counts), **{sheet: "odd" + sheet for sheet in bad}}
    return tuple(step for step in plan if step not in gone), variant, tuple(sorted(told.items()))


def right(run, seen, bad, checks):
    """The test's own look: the SHEETS that are alike in both RUNS, if those of checks are."""
    lead = looks.class_of((run, standing(run, bad)), (*seen, *[((0, sheet), (1, sheet)) for sheet in checks]))
    return tuple(sheet for sheet in looks.held_sheets(run) if lead[(0, sheet)] == lead[(1, sheet)])


def again_row(run, again):
    """The STEPS that run once more, in a row."""
    plan, variant, counts = run
    steps = tuple(step for step in looks.working(plan, variant) if step[3] in again)
    return looks.rows_of_steps((steps, variant, counts))[0]


def behind(run, seen, bad, again):
    """The test's own look at reruns: by terms, put together as far as what was seen asks for."""
    terms, bare, sheets = looks.Terms(), standing(run, bad), looks.held_sheets(run)
    should, now = [{sheet: terms.of(one, sheet) for sheet in sheets} for one in (run, bare)]
    for _, method, reads, sheet, _ in again_row(run, again):
        now[sheet] = terms.node((method, tuple(now[read] for read in reads)))
    lead = terms.classes([(should[one], should[other]) for (_, one), (_, other) in seen])
    return tuple(sheet for sheet in sheets if lead[now[sheet]] == lead[should[sheet]])


def ends(world, run, bad, again=()):
    """What the SHEETS hold in a WORLD that tells the odd MARKS, too: as they should, and as they are behind reruns."""
    sheets = looks.held_sheets(run)
    should, now = [{sheet: looks.held(world, one, sheet) for sheet in sheets} for one in (run, standing(run, bad))]
    for _, method, reads, sheet, _ in again_row(run, again):
        now[sheet] = looks.told(world, method, tuple(now[read] for read in reads))
    return should, now


def is_wrong(run, seen, bad, checks, sheet, world):
    """The test's own look at a WORLD, for bad SHEETS with the MARKS that bad_run gives them."""
    runs = (run, bad_run(run, bad))
    table = looks.numbers(world, runs)
    agrees = looks.is_world(world) and all(table[one] == table[other] for one, other in seen)
    return agrees and all(table[(0, one)] == table[(1, one)] for one in checks) and table[(0, sheet)] != table[(1, sheet)]


def case(rng):
    chance = rng.random()
    if chance < 0.5:
        run = drawn.wide_run(rng, 4)
    else:
        run = drawn.run(rng, dense=chance < 0.8, most=4)
    sheets = looks.held_sheets(run)
    if not sheets or len(sheets) > 8:
        return case(rng)
    bad, checks = [tuple(sheet for sheet in sheets if rng.random() < part) for part in (rng.choice((0.2, 0.4)), 0.25)]
    return run, drawn.seen(rng, (run,), most=rng.choice((0, 1, 3))), bad, checks, rng.choice(sheets)


CASES = drawn.draws(200, 300, case)


class BadRun(unittest.TestCase):
    def test_bad_runs(self):
        for run, _, bad, _, _ in CASES:
            plan, variant, counts = run
            found = bad_run(run, bad)
            self.assertIs(is_run(found), True)
            self.assertEqual(found[:2], standing(run, bad)[:2])
            marks = {mark for _, mark in counts}
            free = [letter for letter in LETTERS if letter not in marks]
            told = {**dict(counts), **dict(zip(bad, free))}
            self.assertEqual(found[2], tuple(sorted(told.items())))
            self.assertEqual(looks.held_sheets(found), looks.held_sheets(run))

    def test_by_hand(self):
        self.assertEqual(bad_run(RUN, ()), RUN)
        self.assertEqual(bad_run(RUN, ("south",)), (PLAN, (), (("north", "m"), ("south", "a"))))
        self.assertEqual(bad_run(RUN, ("all", "best", "north", "south")),
                         ((), (), (("all", "a"), ("best", "b"), ("north", "c"), ("south", "d"))))
        plan = (("p", "f", (), "x", (("u", 1),)), ("q", "g", (), "x", (("u", 0),)))
        self.assertEqual(bad_run((plan, (), (("x", "m"),)), ("x",)), (plan[:1], (), (("x", "a"),)))
        self.assertEqual(bad_run((plan, ("u",), ()), ["x"]), (plan[1:], ("u",), (("x", "a"),)))

    def test_shortest_names_are_taken(self):
        taken = tuple(("s" + letter, letter) for letter in LETTERS)
        self.assertEqual(bad_run((PLAN, (), (("north", "a"), ("south", "c"))), ("all", "best"))[2],
                         (("all", "b"), ("best", "d"), ("north", "a"), ("south", "c")))
        run = (PLAN, (), (("north", "aa"), ("south", "ac"), *taken))
        self.assertEqual(bad_run(run, ("all", "best", "sa"))[2],
                         tuple(sorted([("all", "ab"), ("best", "ad"), ("north", "aa"), ("south", "ac"), ("sa", "ae"), *taken[1:]])))
        # Also the MARK that a bad SHEET had, and one that a made SHEET has, is a MARK of the RUN.
        self.assertEqual(bad_run((PLAN, (), (("all", "b"), ("north", "a"), ("south", "n"))), ("all", "north"))[2],
                         (("all", "c"), ("north", "d"), ("south", "n")))


class Reached(unittest.TestCase):
    def test_reached_and_surely_right(self):
        cured = 0
        for run, seen, bad, checks, _ in CASES:
            sheets = looks.held_sheets(run)
            plain, checked = right(run, seen, bad, ()), right(run, seen, bad, checks)
            self.assertEqual(reached(run, seen, bad), tuple(sheet for sheet in sheets if sheet not in plain))
            self.assertEqual(surely_right(run, seen, bad, checks), checked)
            self.assertLessEqual(set(checks), set(checked))
            cured += bool(set(checked) - set(plain) - set(checks))
        self.assertGreater(cured, 25)

    def test_wrong_world(self):
        some = 0
        for run, seen, bad, checks, sheet in CASES:
            paper = wrong_world(run, seen, bad, checks, sheet)
            if sheet in right(run, seen, bad, checks):
                self.assertIsNone(paper)
            else:
                some += 1
                self.assertTrue(is_wrong(run, seen, bad, checks, sheet, paper))
                self.assertIs(is_wrong_world(run, seen, bad, checks, sheet, paper), True)
                self.assertEqual(wrong_world(run, seen, bad, checks, sheet), paper)
            for world in (free_world((run, bad_run(run, bad)), seen), free_world((run,), seen), drawn.world(random.Random(some), (run,), seen)):
                self.assertIs(is_wrong_world(run, seen, bad, checks, sheet, world), is_wrong(run, seen, bad, checks, sheet, world))
        self.assertGreater(some, 60)

    def test_against_plain_worlds(self):
        rng, checked, wrong = random.Random(201), 0, 0
        for runs in drawn.draws(202, 40, lambda rng: drawn.small_runs(rng, most=1)):
            run, seen = runs[0], drawn.seen(rng, runs, most=1)
            sheets = looks.held_sheets(run)
            for bad in looks.subsets(sheets)[:6]:
                again = tuple(sheet for sheet in sheets if rng.random() < 0.5)
                both = (run, standing(run, bad))
                if looks.how_many_plain(both, 2) > 600:
                    continue
                sure = {checks: surely_right(run, seen, bad, checks) for checks in looks.subsets(sheets)[:6]}
                fixed = behind_reruns(run, seen, bad, again)
                for world in looks.plain_worlds(both, 2):
                    should, now = ends(world, run, bad)
                    if all(should[one] == should[other] for (_, one), (_, other) in seen):
                        right_there = [sheet for sheet in sheets if should[sheet] == now[sheet]]
                        for checks in sure:
                            if set(checks) <= set(right_there):
                                checked += 1
                                self.assertLessEqual(set(sure[checks]), set(right_there))
                                wrong += right_there != sheets
                        should, now = ends(world, run, bad, again)
                        self.assertTrue(all(should[sheet] == now[sheet] for sheet in fixed))
        self.assertGreater(min(checked, wrong), 1000)

    def test_the_guarantee(self):
        for run, seen, bad, checks, sheet in CASES[:80]:
            runs = (run, bad_run(run, bad))
            more = tuple(sorted({*seen, *[((0, one), (1, one)) for one in checks]}))
            self.assertIs(sheet in surely_right(run, seen, bad, checks), alike(runs, more, (0, sheet), (1, sheet)))

    def test_by_hand(self):
        self.assertEqual(reached(RUN, (), ()), ())
        self.assertEqual(reached(RUN, (), ("all", "best", "north", "south")), ("all", "best", "north", "south"))
        self.assertEqual(surely_right(RUN, (), ("all", "south"), ("south",)), ("north", "south"))
        self.assertEqual(surely_right(RUN, (), ("all",), ("best",)), ("best", "north", "south"))
        # Nothing is seen of what stands there: best may be wrong, though it should hold what north does.
        seen = (((0, "best"), (0, "north")),)
        self.assertEqual(reached(RUN, seen, ("best",)), ("best",))
        self.assertEqual(reached(RUN, seen, ("south",)), ("all", "best", "south"))
        twins = ((("p", "f", ("a",), "x", ()), ("q", "f", ("b",), "y", ())), (), (("a", "m"), ("b", "n")))
        self.assertEqual(surely_right(twins, (((0, "a"), (0, "b")),), ("a",), ("x",)), ("b", "x", "y"))
        self.assertEqual(surely_right(twins, (((0, "a"), (0, "b")),), ("a", "x"), ("a",)), ("a", "b", "y"))


class Judge(unittest.TestCase):
    WORLD = ((("a", 7), ("m", 1), ("n", 2)), (("sum", (1, 2), 3), ("top", (3,), 4), ("top", (7,), 5)), 0)

    def test_worlds(self):
        self.assertIs(is_wrong_world(RUN, (), ("all",), (), "all", self.WORLD), True)
        self.assertIs(is_wrong_world(RUN, (), ("all",), ("north",), "best", self.WORLD), True)
        self.assertIs(is_wrong_world(RUN, (), ("all",), ("best",), "all", self.WORLD), False)
        self.assertIs(is_wrong_world(RUN, (), ("all",), (), "north", self.WORLD), False)
        self.assertIs(is_wrong_world(RUN, (), ("best",), (), "all", self.WORLD), False)
        self.assertIs(is_wrong_world(RUN, (((0, "all"), (0, "best")),), ("all",), (), "all", self.WORLD), False)
        self.assertIs(is_wrong_world(RUN, (((0, "north"), (0, "south")),), ("all",), (), "all", self.WORLD), False)
        contents, tables, rest = self.WORLD
        for bad in ((contents[::-1], tables, rest), (contents, tables[::-1], rest), (contents, tables, True), list(self.WORLD), (contents, tables),
                    (contents, (tables[0], *tables), rest), (list(contents), tables, rest), ((*contents[:2], ("n", True)), tables, rest)):
            self.assertIs(is_wrong_world(RUN, (), ("all",), (), "all", bad), False)
        self.assertIs(is_wrong_world(RUN, (), ("all",), (), "all", ((("a", 10 ** 60),), (), 0)), True)

    def test_all_things(self):
        for thing in [*PLAIN, *spoiled(self.WORLD)]:
            if thing not in (((), (), 0),):
                self.assertIs(is_wrong_world(RUN, (), ("all",), (), "all", thing), False)
        self.assertIs(is_wrong_world(RUN, (), ("all",), (), "all", ((), (), 0)), False)
        for thing in (None, self.WORLD, ()):
            with self.assertRaises(NoSheet):
                is_wrong_world(RUN, (), ("all",), (), "west", thing)


class Fewest(unittest.TestCase):
    def test_fewest_checks_against_all_sets(self):
        fewer = several = 0
        for run, seen, bad, wanted, _ in CASES:
            if len(looks.held_sheets(run)) > 6:
                continue
            enough = [some for some in looks.subsets(looks.held_sheets(run)) if set(wanted) <= set(right(run, seen, bad, some))]
            least = min(len(some) for some in enough)
            expected = min(some for some in enough if len(some) == least)
            self.assertEqual(fewest_checks(run, seen, bad, wanted), expected)
            fewer += least < len(wanted)
            several += least > 0 and len([some for some in enough if len(some) == least]) > 1
        self.assertGreater(min(fewer, several), 10)

    def test_fewest_checks_by_hand(self):
        self.assertEqual(fewest_checks(RUN, (), ("north", "south"), ()), ())
        self.assertEqual(fewest_checks(RUN, (), (), ("all", "best")), ())
        self.assertEqual(fewest_checks(RUN, (), ("north", "south"), ("all", "best")), ("all",))
        self.assertEqual(fewest_checks(RUN, (), ("north",), ("best",)), ("all",))
        self.assertEqual(fewest_checks(RUN, (), ("south",), ("north", "south")), ("south",))

    def test_fewest_reruns_against_all_sets(self):
        none = some = 0
        for run, seen, bad, wanted, _ in CASES:
            made = [sheet for sheet in looks.held_sheets(run) if looks.maker_of(run, sheet)]
            enough = [again for again in looks.subsets(made) if set(wanted) <= set(behind(run, seen, bad, again))]
            if not enough:
                none += 1
                self.assertIsNone(fewest_reruns(run, seen, bad, wanted))
            else:
                least = min(len(again) for again in enough)
                some += least > 0
                self.assertEqual(fewest_reruns(run, seen, bad, wanted), min(again for again in enough if len(again) == least))
        self.assertGreater(min(none, some), 25)

    def test_fewest_reruns_by_hand(self):
        self.assertEqual(fewest_reruns(RUN, (), ("all",), ()), ())
        self.assertEqual(fewest_reruns(RUN, (), ("best",), ("best", "north")), ("best",))
        self.assertIsNone(fewest_reruns(RUN, (), ("north",), ("north",)))
        self.assertIsNone(fewest_reruns(RUN, (), ("all", "north"), ("all",)))


class Reruns(unittest.TestCase):
    def test_behind_reruns(self):
        better = 0
        for run, seen, bad, again, _ in CASES:
            for some in (again, tuple(looks.held_sheets(run)), bad, ()):
                expected = behind(run, seen, bad, some)
                self.assertEqual(behind_reruns(run, seen, bad, some), expected)
                better += bool(set(expected) - set(behind(run, seen, bad, ())))
        self.assertGreater(better, 80)

    def test_steps_that_read_what_is_bad(self):
        self.assertEqual(behind_reruns(RUN, (), ("all",), ("all", "best")), ("all", "best", "north", "south"))
        self.assertEqual(behind_reruns(RUN, (), ("all",), ("all",)), ("all", "north", "south"))
        self.assertEqual(behind_reruns(RUN, (), ("all",), ()), ("north", "south"))
        self.assertEqual(behind_reruns(RUN, (), ("north",), ("all", "best", "north")), ("south",))
        self.assertEqual(behind_reruns(RUN, (), ("best",), ("best",)), ("all", "best", "north", "south"))

    def test_steps_that_run_once_more_on_what_stays_wrong(self):
        plan = (("p", "f", ("a",), "x", ()), ("q", "g", ("x",), "y", ()))
        run = (plan, (), (("a", "m"),))
        self.assertEqual(behind_reruns(run, (), ("a", "y"), ("y",)), ())
        seen = (((0, "a"), (0, "x")),)
        self.assertEqual(behind_reruns(run, seen, ("a",), ("x",)), ())
        self.assertEqual(behind_reruns(run, seen, ("y",), ("y",)), ("a", "x", "y"))

    def test_steps_in_the_row_of_their_reads(self):
        plan = (("a", "f", ("x",), "y", ()), ("b", "g", ("i",), "x", ()), ("c", "h", ("y",), "z", ()))
        run = (plan, (), (("i", "m"),))
        self.assertEqual(behind_reruns(run, (), ("x",), ("x", "y", "z")), ("i", "x", "y", "z"))
        self.assertEqual(behind_reruns(run, (), ("x",), ("x", "z")), ("i", "x"))


class Errors(unittest.TestCase):
    def first(self, kind, kept, function, *arguments):
        with self.assertRaises(kind) as caught:
            function(RUN, *arguments)
        self.assertEqual(list(vars(caught.exception).values()), [kept])

    def test_which_one_comes_first(self):
        seen = (((0, "all"), (1, "all")),)
        calls = [(reached, ("west",), ()), (surely_right, ("west",), (("east",),)), (wrong_world, ("west",), (("east",), "off")),
                 (is_wrong_world, ("west",), (("east",), "off", None)), (fewest_checks, ("west",), (("east",),)),
                 (behind_reruns, ("west",), (("east",),)), (fewest_reruns, ("west",), (("east",),))]
        for function, bad, more in calls:
            self.first(NoSpot, (1, "all"), function, seen, bad, *more)
            self.first(NoSpot, (0, "on"), function, (((0, "on"), (0, "up")),), bad, *more)
            self.first(NoSheet, "west", function, (), bad, *more)
            self.first(NoSheet, "west", function, (), ("all", "west", "yet"), *more)
            if more:
                self.first(NoSheet, "east", function, (), ("all",), *more)
                self.first(NoSheet, "east", function, (), (), ("all", "east", "west"), *more[1:])
        for function, more in ((wrong_world, ()), (is_wrong_world, ((),))):
            self.first(NoSheet, "off", function, (), ("all",), ("all",), "off", *more)
        self.first(NoSheet, "west", bad_run, ("all", "west", "yet"))
        self.first(NoSpot, (1, "all"), reached, [[[0, "all"], [1, "all"]]], [])

    def test_a_sheet_that_only_a_step_that_does_not_run_makes(self):
        plan = (("p", "f", (), "x", (("u", 1),)),)
        with self.assertRaises(NoSheet):
            reached((plan, (), ()), (), ("x",))
        self.assertEqual(reached((plan, ("u",), ()), (), ("x",)), ("x",))


if __name__ == "__main__":
    unittest.main()
