"""branches.py: STORIES, and what their copies are."""

import random
import unittest
from itertools import product

from reportalike import branches
from reportalike.branches import (
    copies, doing_row, held_there, is_odd_world, is_story, moments, odd_world, same_copies, unsettled,
)
from reportalike.errors import NoSheet, NoStep
from tests import drawn, looks
from tests.things import PLAIN, spoiled

PLAN = (("one", "f", ("x",), "a", ()), ("two", "g", ("a", "y"), "b", ()), ("off", "f", ("y",), "k", (("u", 1),)))
PLAN = tuple(sorted(PLAN))
RUNS = ((PLAN, ("u",), (("x", "m"), ("y", "k"))), (PLAN, (), (("x", "n"), ("y", "k"), ("z", "o"))))
STORY = (("come", "west", (0, "x")), ("do", "west", "one"), ("come", "west", (1, "x")), ("come", "west", (1, "y")), ("do", "west", "two"))


class Copies:
    """The test's own copies: terms, told by numbers, beside those of all SPOTS."""

    def __init__(self, runs, story):
        self.terms = looks.Terms()
        self.spots = {spot: self.terms.of(runs[spot[0]], spot[1]) for spot in looks.spots(runs)}
        self.steps = {step[0]: step for step in looks.working(runs[-1][0], runs[-1][1])}
        self.held = {}
        for deed in story:
            self.take(deed)

    def take(self, deed):
        branch = deed[1]
        if deed[0] == "come":
            self.held[(branch, deed[2][1])] = self.spots[deed[2]]
        elif deed[0] == "lend":
            self.held[(branch, deed[3])] = self.held[(deed[2], deed[3])]
        else:
            self.held[(branch, self.steps[deed[2]][3])] = self.gives(branch, deed[2])

    def gives(self, branch, name):
        """The term that the STEP gives of the copies there; None if one is not there."""
        _, method, reads, _, _ = self.steps[name]
        if any((branch, read) not in self.held for read in reads):
            return None
        return self.terms.node((method, tuple(self.held[(branch, read)] for read in reads)))

    def same(self, seen, one, other):
        lead = self.terms.classes([(self.spots[first], self.spots[second]) for first, second in seen])
        return lead[one] == lead[other]


def in_world(world, runs, story):
    """What all copies hold in this WORLD."""
    steps, held = {step[0]: step for step in runs[-1][0]}, {}
    for deed in story:
        branch = deed[1]
        if deed[0] == "come":
            held[(branch, deed[2][1])] = looks.at(world, runs, deed[2])
        elif deed[0] == "lend":
            held[(branch, deed[3])] = held[(deed[2], deed[3])]
        else:
            _, method, reads, sheet, _ = steps[deed[2]]
            held[(branch, sheet)] = looks.told(world, method, tuple(held[(branch, read)] for read in reads))
    return held


def drawn_story(rng, runs, most=9, names=("east", "west")):
    spots = looks.spots(runs)
    steps = looks.working(runs[-1][0], runs[-1][1])
    story, has = [], set()
    for _ in range(rng.randint(0, most)):
        branch, word = rng.choice(names), rng.choice(("come", "come", "lend", "do", "do"))
        if word == "come" and spots:
            spot = rng.choice(spots)
            story.append(("come", branch, spot))
            has.add((branch, spot[1]))
        elif word == "lend" and has:
            other, sheet = rng.choice(sorted(has))
            story.append(("lend", branch, other, sheet))
            has.add((branch, sheet))
        elif word == "do":
            ready = [step for step in steps if all((branch, read) in has for read in step[2])]
            if ready:
                step = rng.choice(ready)
                story.append(("do", branch, step[0]))
                has.add((branch, step[3]))
    return tuple(story)


def rich_story(rng, runs):
    """A STORY in which the branch west comes to have most of what now needs, and old copies of what it makes."""
    late, needed, story = len(runs) - 1, looks.needed(runs[-1][0], runs[-1][1]), []
    for sheet in looks.held_sheets(runs[-1]):
        places = [place for place in range(len(runs)) if sheet in looks.held_sheets(runs[place])]
        place = late if sheet in needed and rng.random() < 0.7 else rng.choice(places)
        if rng.random() < 0.9:
            story.append(("come", "west", (place, sheet)))
    has = {deed[2][1] for deed in story}
    for _ in range(rng.randint(0, 3)):
        steps = [step for step in looks.working(runs[-1][0], runs[-1][1]) if set(step[2]) <= has]
        if steps:
            step = rng.choice(steps)
            story.append(("do", "west", step[0]))
            has.add(step[3])
    return tuple(story)


def case(rng):
    """RUNS one behind another, most of one PLAN, and a STORY."""
    first = drawn.wide_run(rng, 3)
    runs = [first]
    for _ in range(rng.randint(0, 2)):
        runs.append(drawn.changed_run(rng, runs[-1]) if rng.random() < 0.5 else
                    (*first[:2], tuple((sheet, rng.choice("mnk")) for sheet, _ in first[2])))
    runs = tuple(runs)
    story = drawn_story(rng, runs) if rng.random() < 0.4 else rich_story(rng, runs)
    return runs, drawn.seen(rng, runs, most=2), story


def small_case(rng):
    runs = drawn.small_runs(rng)
    return runs, drawn.seen(rng, runs), drawn_story(rng, runs)


CASES = drawn.draws(170, 300, case)
SMALL = drawn.draws(171, 150, small_case)


def has_of(story, runs, branch):
    held = Copies(runs, story).held
    return sorted(sheet for own, sheet in held if own == branch)


class Stories(unittest.TestCase):
    def test_drawn(self):
        rng, right, wrong = random.Random(172), 0, 0
        for runs, _, story in CASES:
            self.assertIs(is_story(runs, story), True)
            for _ in range(3):
                row = list(story)
                rng.shuffle(row)
                for other in (tuple(row), story[1:]):
                    expected = self.can_be_told(runs, other)
                    self.assertIs(is_story(runs, other), expected)
                    right, wrong = right + expected, wrong + (not expected)
            for branch in ("east", "west", "far"):
                self.assertEqual(copies(runs, story, branch), tuple(has_of(story, runs, branch)))
        self.assertGreater(min(right, wrong), 100)

    def can_be_told(self, runs, story):
        own = Copies(runs, ())
        for deed in story:
            if deed[0] == "lend" and (deed[2], deed[3]) not in own.held:
                return False
            if deed[0] == "do" and own.gives(deed[1], deed[2]) is None:
                return False
            own.take(deed)
        return True

    def test_right(self):
        for good in ((), STORY, STORY * 40, (("come", "a", (0, "k")), ("lend", "b", "a", "k"), ("lend", "b", "b", "k")),
                     (("come", "do", (1, "z")),), (("come", "come", (0, "a")), ("lend", "lend", "come", "a"))):
            self.assertIs(is_story(RUNS, good), True, good)

    def test_wrong(self):
        come = ("come", "a", (0, "x"))
        for bad in (STORY[1:], ("come", "a", (0, "x")), (("come", "a", (0, "z")),), (("come", "a", (1, "k")),), (("come", "a", (2, "x")),),
                    (("come", "a", (-1, "x")),), (("come", "a", (True, "x")),), (("come", "a", [0, "x"]),), (("come", "A", (0, "x")),),
                    (("come", "a", (0, "x"), "x"),), (("come", "a"),), (("lend", "a", "b", "x"),), (come, ("lend", "b", "c", "x")),
                    (come, ("lend", "b", "a", "y")), (come, ("lend", "b", "a")), (come, ("lend", "b", "a", "x", "x")), (come, ("give", "b", "a", "x")), (come, ("do", "b", "one")),
                    (come, ("do", "a", "two")), (come, ("do", "a", "none")), (come, ("do", "a", "one", "a")), (come, ("do", "a")),
                    (("come", "a", (0, "y")), ("do", "a", "off")), (come, ("go", "a", "one")), (come, ["do", "a", "one"]), [come], (come, None),
                    (come, ("do", "A", "one")), (come, ("lend", "B", "a", "x")), (("do", "a", "one"), come)):
            self.assertIs(is_story(RUNS, bad), False, bad)
        for bad in spoiled((*STORY, ("lend", "east", "west", "b"))):
            self.assertIs(is_story(RUNS, bad), False, bad)
        for thing in PLAIN:
            self.assertIs(is_story(RUNS, thing), repr(thing) == "()", thing)

    def test_held_there(self):
        rng = random.Random(173)
        for runs, seen, story in CASES:
            for world in (drawn.world(rng, runs, seen), ((), (), 3), drawn.world(rng, runs, (), 9)):
                held = in_world(world, runs, story)
                for branch in ("east", "west", "far"):
                    own = tuple(sorted((sheet, number) for (where, sheet), number in held.items() if where == branch))
                    self.assertEqual(held_there(world, runs, story, branch), own)

    def test_by_hand(self):
        world = ((("k", 1), ("m", 2), ("n", 3)), (("f", (2,), 4), ("f", (3,), 5), ("g", (4, 1), 6), ("g", (5, 1), 7)), 0)
        self.assertEqual(held_there(world, RUNS, STORY, "west"), (("a", 4), ("b", 6), ("x", 3), ("y", 1)))
        more = (*STORY, ("do", "west", "one"), ("lend", "east", "west", "a"), ("do", "west", "two"), ("lend", "west", "west", "b"))
        self.assertEqual(held_there(world, RUNS, more, "west"), (("a", 5), ("b", 7), ("x", 3), ("y", 1)))
        self.assertEqual(held_there(world, RUNS, more, "east"), (("a", 5),))
        self.assertEqual(held_there(world, RUNS, (("come", "far", (1, "z")),), "far"), (("z", 0),))


class Sure(unittest.TestCase):
    def test_same_copies(self):
        alike = unlike = 0
        for runs, seen, story in CASES:
            own = Copies(runs, story)
            for one, other in product(sorted(own.held), repeat=2):
                expected = own.same(seen, own.held[one], own.held[other])
                self.assertIs(same_copies(runs, seen, story, one, other), expected)
                alike += expected and one < other
                unlike += not expected
        self.assertGreater(min(alike, unlike), 100)

    def lots(self, rng, runs, story):
        """Pairs of a branch and a set of SHEETS of which it has copies."""
        found = []
        for branch in ("east", "west"):
            row = has_of(story, runs, branch)
            found += [(branch, ()), (branch, tuple(row)), (branch, drawn.some_of(rng, row)), (branch, tuple(row[-1:]))]
        return found

    def test_moments_and_odd_worlds(self):
        rng, odd, found = random.Random(174), 0, 0
        for runs, seen, story in CASES:
            own = Copies(runs, story)
            lead = own.terms.classes([(own.spots[first], own.spots[second]) for first, second in seen])
            for branch, some in self.lots(rng, runs, story):
                places = tuple(place for place in range(len(runs)) if all(
                    (place, sheet) in own.spots and lead[own.spots[(place, sheet)]] == lead[own.held[(branch, sheet)]] for sheet in some))
                self.assertEqual(moments(runs, seen, story, branch, some), places)
                world = odd_world(runs, seen, story, branch, some)
                self.assertIs(world is None, places != ())
                if world is not None:
                    self.assertTrue(self.is_odd(runs, seen, story, branch, some, world))
                    self.assertIs(is_odd_world(runs, seen, story, branch, some, world), True)
                    self.assertEqual(odd_world(runs, seen, story, branch, some), world)
                    odd += 1
                for many in (2, 3, 9):
                    other = drawn.world(rng, runs, seen, many)
                    expected = self.is_odd(runs, seen, story, branch, some, other)
                    self.assertIs(is_odd_world(runs, seen, story, branch, some, other), expected)
                    self.assertFalse(expected and places)
                    found += expected
        self.assertGreater(odd, 50)
        self.assertGreater(found, 50)

    def is_odd(self, runs, seen, story, branch, some, world):
        if not looks.is_world(world) or not looks.agrees(world, runs, seen):
            return False
        held, told = in_world(world, runs, story), looks.numbers(world, runs)
        return not any(all((place, sheet) in told and told[(place, sheet)] == held[(branch, sheet)] for sheet in some) for place in range(len(runs)))

    def test_small_plain_worlds(self):
        """In each plain WORLD that agrees some RUN has all as the branch has them, if moments tells one."""
        rng, checked = random.Random(175), 0
        for runs, seen, story in SMALL:
            worlds = [world for world in looks.plain_worlds(runs, 2) if looks.agrees(world, runs, seen)]
            for branch, some in self.lots(rng, runs, story):
                if moments(runs, seen, story, branch, some):
                    self.assertFalse(any(self.is_odd(runs, seen, story, branch, some, world) for world in worlds[::3]))
                    checked += some != ()
        self.assertGreater(checked, 60)

    def test_things_that_are_no_odd_world(self):
        world = odd_world(RUNS, (), STORY, "west", ("b", "x"))
        self.assertIs(is_odd_world(RUNS, (), STORY, "west", ("b", "x"), world), True)
        self.assertIs(is_odd_world(RUNS, (), STORY, "west", ("b",), world), False)
        self.assertIs(is_odd_world(RUNS, (), STORY, "west", (), world), False)
        self.assertIs(is_odd_world(RUNS, (((0, "x"), (1, "x")),), STORY, "west", ("b", "x"), world), False)
        for bad in spoiled(world) + list(PLAIN):
            self.assertIs(is_odd_world(RUNS, (), STORY, "west", ("b", "x"), bad), False, bad)

    def test_moments_by_hand(self):
        self.assertEqual(moments(RUNS, (), STORY, "west", ()), (0, 1))
        self.assertEqual(moments(RUNS, (), STORY, "east", ()), (0, 1))
        self.assertEqual(moments(RUNS, (), STORY, "west", ("y",)), (0, 1))
        self.assertEqual(moments(RUNS, (), STORY, "west", ("x", "y")), (1,))
        self.assertEqual(moments(RUNS, (), (("come", "a", (0, "k")),), "a", ("k",)), (0,))
        self.assertEqual(moments(RUNS, (), (("come", "a", (1, "z")),), "a", ("z",)), (1,))


class Doing(unittest.TestCase):
    def test_unsettled(self):
        rng, some = random.Random(176), 0
        for runs, seen, story in CASES:
            own = Copies(runs, story)
            names = sorted(own.steps)
            for branch in ("east", "west"):
                row = tuple(rng.choice(names) for _ in range(rng.randint(0, 4) if names else 0))
                expected = set()
                for name in row:
                    number, sheet = own.gives(branch, name), own.steps[name][3]
                    if number is None or (branch, sheet) not in own.held or not own.same(seen, number, own.held[(branch, sheet)]):
                        expected.add(sheet)
                self.assertEqual(unsettled(runs, seen, story, branch, row), tuple(sorted(expected)))
                some += 0 < len(expected) < len(set(row))
        self.assertGreater(some, 20)

    def test_a_settled_row_changes_nothing(self):
        checked = settled = 0
        for runs, seen, story in CASES + SMALL:
            own = Copies(runs, story)
            names = sorted(own.steps)
            for row in [(name,) for name in names] + [(one, other) for one in names for other in names]:
                done = Copies(runs, story)
                before = {key: term for key, term in done.held.items() if key[0] == "west"}
                if all(self.do(done, name) for name in row):
                    after = {key: term for key, term in done.held.items() if key[0] == "west"}
                    same = set(before) == set(after) and all(done.same(seen, before[key], after[key]) for key in before)
                    told = unsettled(runs, seen, story, "west", row) == ()
                    self.assertTrue(same or not told)
                    checked, settled = checked + 1, settled + told
        self.assertGreater(checked, 300)
        self.assertGreater(settled, 30)

    def do(self, done, name):
        if done.gives("west", name) is None:
            return False
        done.take(("do", "west", name))
        return True

    def test_unsettled_by_hand(self):
        self.assertEqual(unsettled(RUNS, (), STORY, "west", ("one", "two", "one", "one")), ("a",))
        self.assertEqual(unsettled(RUNS, (((0, "x"), (1, "x")),), STORY, "west", ("one", "two")), ())
        self.assertEqual(unsettled(RUNS, (), STORY, "west", ()), ())
        self.assertEqual(unsettled(RUNS, (), STORY, "east", ("one", "two")), ("a", "b"))
        # A copy is there, but not what the STEP reads; what it reads is there, but no copy.
        story = (("come", "w", (1, "a")), ("come", "w", (1, "b")))
        self.assertEqual(unsettled(RUNS, (), story, "w", ("one",)), ("a",))
        self.assertEqual(unsettled(RUNS, (), (("come", "w", (1, "x")),), "w", ("one",)), ("a",))
        self.assertEqual(unsettled(RUNS, (), (*story, ("come", "w", (1, "x"))), "w", ("one",)), ())

    def least_row(self, runs, seen, story, branch, sheet, most):
        """By a look at all rows of at most so many names; None if there is none among these."""
        names = sorted(Copies(runs, story).steps)
        right = Copies(runs, ()).spots.get((len(runs) - 1, sheet))
        for many in range(most + 1):
            for row in product(names, repeat=many):
                done = Copies(runs, story)
                if right is not None and all(self.step_done(done, branch, name) for name in row):
                    if done.same(seen, done.held[(branch, sheet)], done.spots[(len(runs) - 1, sheet)]):
                        return row
        return None

    def step_done(self, done, branch, name):
        if done.gives(branch, name) is None:
            return False
        done.take(("do", branch, name))
        return True

    def test_doing_row(self):
        none = some = several = 0
        for runs, seen, story in CASES + SMALL[:60]:
            for branch in ("east", "west"):
                for sheet in has_of(story, runs, branch):
                    told = doing_row(runs, seen, story, branch, sheet)
                    most = 4 if told is None else len(told)
                    self.assertEqual(told, self.least_row(runs, seen, story, branch, sheet, min(most, 4)))
                    none, some = none + (told is None), some + (told not in (None, ()))
                    several += told is not None and len(told) > 1
        self.assertGreater(none, 60)
        self.assertGreater(some, 20)
        self.assertGreater(several, 3)

    def test_doing_row_by_hand(self):
        self.assertEqual(doing_row(RUNS, (), STORY, "west", "b"), ("one", "two"))
        self.assertEqual(doing_row(RUNS, (), STORY, "west", "a"), ("one",))
        self.assertEqual(doing_row(RUNS, (), STORY, "west", "x"), ())
        self.assertIsNone(doing_row(RUNS, (), STORY[:2], "west", "x"))
        self.assertIsNone(doing_row(RUNS, (), STORY[:2], "west", "a"))
        self.assertEqual(doing_row(RUNS, (((0, "x"), (1, "x")),), STORY, "west", "b"), ())
        # now has no such SHEET.
        self.assertIsNone(doing_row(RUNS, (), (("come", "w", (0, "k")), ("come", "w", (1, "y"))), "w", "k"))
        # y is not there.
        story = (("come", "w", (1, "x")), ("come", "w", (0, "b")))
        self.assertIsNone(doing_row(RUNS, (), story, "w", "b"))
        # Of two STEPS that give what is right, by what was seen, the shorter way and then the lesser one is taken.
        plan = (("p", "f", ("x",), "a", ()), ("q", "f", ("x",), "c", ()), ("r", "g", ("a", "c"), "b", ()))
        runs = ((plan, (), (("x", "m"),)), (plan, (), (("x", "n"),)))
        story = (("come", "w", (1, "x")), ("come", "w", (0, "a")), ("come", "w", (0, "c")), ("come", "w", (0, "b")))
        self.assertEqual(doing_row(runs, (), story, "w", "b"), ("p", "q", "r"))
        self.assertEqual(doing_row(runs, (((0, "b"), (1, "b")),), story, "w", "b"), ())
        self.assertEqual(doing_row(runs, (((0, "a"), (1, "a")),), (*story, ("come", "w", (0, "b"))), "w", "b"), ())

    def test_another_sheet_that_holds_what_is_right(self):
        """a comes to hold what b should, by what was seen, but b does not yet."""
        seen = (((1, "a"), (1, "b")),)
        self.assertEqual(doing_row(RUNS, seen, STORY, "west", "b"), ("one", "two"))
        self.assertEqual(doing_row(RUNS, seen, (*STORY, ("do", "west", "one")), "west", "b"), ("two",))

    def test_a_step_done_twice(self):
        """What is right was seen to be made of the new q and of what comes of the old one: so q is made twice."""
        odd = (("a", "f", ("x",), "p", ()), ("b", "g", ("p",), "q", ()), ("d", "k", ("s",), "t", ()), ("e", "h", ("q", "t"), "r", ()),
               ("z", "g", ("o",), "s", ()))
        now = (*odd[:2], ("d", "k", ("q",), "t", ()), odd[3])
        early = ((), (), (("p", "old"), ("q", "w"), ("r", "v"), ("t", "u")))
        runs = ((odd, (), (("o", "old"), ("x", "m"))), early, (now, (), (("x", "n"),)))
        story = (("come", "w", (0, "x")), *[("come", "w", (1, sheet)) for sheet in "pqrt"])
        self.assertIsNone(doing_row(runs, (), story, "w", "r"))
        seen = (((0, "r"), (2, "r")),)
        self.assertEqual(doing_row(runs, seen, story, "w", "r"), ("b", "a", "d", "b", "e"))
        self.assertEqual(self.least_row(runs, seen, story, "w", "r", 5), ("b", "a", "d", "b", "e"))

    def test_at_the_bounds(self):
        plan = (("a", "f", ("x",), "p", ()), ("b", "g", ("p", "x"), "q", ()), ("c", "h", ("p", "q"), "r", ()), ("d", "k", ("p", "q", "r"), "s", ()),
                ("e", "l", ("q", "r", "s"), "t", ()))
        runs = ((plan, (), (("x", "m"),)), (plan, (), (("x", "n"),)))
        story = tuple(("come", "w", (0, sheet)) for sheet in "pqrstx")
        self.assertIsNone(doing_row(runs, (), story, "w", "t"))
        self.assertEqual(doing_row(runs, (), (*story, ("come", "w", (1, "x"))), "w", "t"), ("a", "b", "c", "d", "e"))


class Errors(unittest.TestCase):
    def expect(self, kind, attribute, value, function, *arguments):
        with self.subTest(function=function.__name__, arguments=arguments):
            with self.assertRaises(kind) as caught:
                function(*arguments)
            self.assertEqual(getattr(caught.exception, attribute), value)

    def test_no_sheet(self):
        base, short = (RUNS, (), STORY), (RUNS, (), STORY[:2])
        for told, branch, some, sheet in ((base, "east", ("x",), "x"), (base, "west", ("a", "k", "z"), "k"), (base, "west", ("none",), "none"),
                                          (short, "west", ("a", "b", "y"), "b")):
            self.expect(NoSheet, "sheet", sheet, moments, *told, branch, some)
            self.expect(NoSheet, "sheet", sheet, odd_world, *told, branch, some)
            for thing in (None, ((), (), 0), "ab"):
                self.expect(NoSheet, "sheet", sheet, is_odd_world, *told, branch, some, thing)
            self.expect(NoSheet, "sheet", sheet, doing_row, *told, branch, sheet)
        # A STEP could make it, but there is no copy.
        self.expect(NoSheet, "sheet", "a", doing_row, RUNS, (), STORY[:1], "west", "a")
        for one, other, sheet in ((("west", "k"), ("west", "z"), "k"), (("west", "a"), ("east", "a"), "a"), (("east", "x"), ("west", "a"), "x")):
            self.expect(NoSheet, "sheet", sheet, same_copies, *base, one, other)

    def test_no_step(self):
        for row, name in ((("off",), "off"), (("one", "none", "off"), "none"), (("a",), "a"), (("one", "off", "none"), "off")):
            self.expect(NoStep, "name", name, branches.unsettled, RUNS, (), STORY, "west", row)
            self.expect(NoStep, "name", name, unsettled, RUNS, (), (), "far", row)
