"""plans.py: what is sound, one order, rings, what is needed."""

import unittest
from itertools import permutations

from reportalike.errors import NoOrder, NoPaper
from reportalike.plans import (
    clash, felt_flags, is_loose_ring, is_one_order, is_sound, is_unsound, loose_ring, needed_at, needed_each,
    needed_some, one_order, told_alike, unmade_at, unsound, wanted,
)
from tests import drawn, looks
from tests.things import PLAIN, spoiled

DRAWN = drawn.draws(5, 250, drawn.plan) + drawn.draws(6, 60, lambda rng: drawn.plan(rng, flags=("u", "v", "w"), sheets="abc"))
FLAGGED = ((), (), (("x", 1),), (("x", 0),), (("y", 1),), (("y", 0),), (("x", 1), ("y", 0)))
FOUR = (
    ("a", "m", ("k",), "f", (("x", 1),)), ("b", "m", ("f",), "g", ()),
    ("c", "m", ("g",), "h", (("x", 0),)), ("d", "m", ("h",), "k", ()),
)


def ring_of(many, conditions):
    """A PLAN whose STEPS feed each other in a ring, each with its condition."""
    names = "abcdefghijklmnopqrstuvwxyz"
    return tuple((names[at], "m", ("s" + names[at - 1 if at else many - 1],), "s" + names[at], conditions.get(at, ()))
                 for at in range(many))


def drawn_ring(rng):
    many = rng.randint(2, 6)
    return ring_of(many, {at: rng.choice(FLAGGED) for at in range(many)})


def drawn_rings(rng):
    """A PLAN with several rings: each STEP makes a SHEET of its own and reads some of the others."""
    names = "abcdef"[:rng.randint(3, 6)]
    return tuple((name, "m", tuple("s" + rng.choice(names) for _ in range(rng.choice((1, 1, 2)))), "s" + name, rng.choice(FLAGGED))
                 for name in names)


DRAWN = DRAWN + drawn.draws(9, 150, drawn_ring) + drawn.draws(10, 300, drawn_rings)
SOUND = [plan for plan in DRAWN if looks.sound(plan)]


def meet(one, other):
    """Whether both STEPS run at some VARIANT."""
    return any(looks.on(one, variant) and looks.on(other, variant) for variant in looks.subsets(looks.flags((one, other))))


def keeps(plan, row):
    """Whether at each VARIANT each STEP that runs stands behind all that run and feed it."""
    for variant in looks.subsets(looks.flags(plan)):
        steps = looks.working(plan, variant)
        for one in steps:
            for other in steps:
                if looks.feeds(one, other) and row.index(one[0]) >= row.index(other[0]):
                    return False
    return True


def loose(plan):
    """All loose rings, by their names."""
    found = []
    for row in looks.rings(plan):
        if all(meet(row[at - 1], row[at]) for at in range(len(row))):
            found.append(tuple(step[0] for step in row))
    return found


def papers(plan, variant):
    """All triples that show that the PLAN is unsound at this VARIANT."""
    steps = looks.working(plan, variant)
    found = [("twice", (one[0], other[0]), variant) for one in steps for other in steps
             if one[0] < other[0] and one[3] == other[3]]
    return found + [("ring", tuple(step[0] for step in ring), variant) for ring in looks.rings(steps)]


class Sound(unittest.TestCase):
    def test_clash(self):
        for one, other, expected in (
                ((), (), False), ((("a", 1),), (), False), ((("a", 1),), (("a", 1),), False),
                ((("a", 1),), (("a", 0),), True), ((("a", 0), ("b", 1)), (("b", 0), ("c", 1)), True),
                ((("a", 1), ("b", 1)), (("c", 0), ("d", 0)), False), ((("a", 0), ("c", 1)), (("b", 1), ("c", 0)), True)):
            self.assertIs(clash(one, other), expected)
            self.assertIs(clash(other, one), expected)

    def test_sound_against_all_variants(self):
        for plan in DRAWN:
            self.assertIs(is_sound(plan), looks.sound(plan), plan)
        self.assertTrue(20 < len(SOUND) < len(DRAWN) - 20)

    def test_sound_as_the_guarantee_says(self):
        for plan in DRAWN:
            makers = all(not meet(one, other) for one in plan for other in plan if one < other and one[3] == other[3])
            told = all(any(not meet(one, other) for one in row for other in row) for row in looks.rings(plan))
            self.assertIs(is_sound(plan), makers and told)

    def test_edges(self):
        self.assertIs(is_sound(()), True)
        self.assertIs(is_sound((("a", "m", ("s",), "s", ()),)), False)
        self.assertIs(is_sound((("a", "m", ("s",), "s", (("x", 1),)),)), False)
        self.assertIs(is_sound((("a", "m", (), "s", (("x", 1),)), ("b", "m", (), "s", (("x", 0),)))), True)
        self.assertIs(is_sound((("a", "m", (), "s", (("x", 1),)), ("b", "m", (), "s", (("x", 1),)))), False)
        self.assertIs(is_sound(FOUR), True)

    def test_rings_of_each_length(self):
        for many in range(1, 9):
            self.assertIs(is_sound(ring_of(many, {})), False)
            for one in range(many):
                for other in range(one):
                    split = {one: (("x", 1), ("z", 0)), other: (("x", 0), ("y", 1))}
                    self.assertIs(is_sound(ring_of(many, split)), True)

    def test_ring_beside_a_ring_that_never_runs_together(self):
        long = (("x", 1),), (), (("x", 0),), ()
        for turn in range(4):
            for bad in ("a", "b", "c", "d"):
                steps = []
                for at, name in enumerate("abcd"):
                    more = ("so",) if name == bad else ()
                    steps.append((name, "m", ("s" + "dabc"[at], *more), "s" + name, long[(at + turn) % 4]))
                plan = (*steps, ("o", "m", ("s" + bad,), "so", ()))
                self.assertIs(is_sound(plan), False)
                paper = unsound(plan)
                self.assertEqual((paper[0], sorted(paper[1])), ("ring", [bad, "o"]))
                self.assertIn(paper, papers(plan, paper[2]))
                clear = (*steps, ("o", "m", ("s" + bad,), "sp", ()))
                self.assertIs(is_sound(clear), True)

    def test_great_plans(self):
        letters = "abcdefghijklmnopqrstuvwxyz"
        tall = tuple((one + two, "m", ("s" + one + two,), "t" + one + two, (("f" + one + two, 1),))
                     for one in letters for two in letters)
        self.assertIs(is_sound(tall), True)
        wide = {at: (("f" + letters[at], 1),) for at in range(26)}
        self.assertIs(is_sound(ring_of(26, wide)), False)
        wide[3] = (("fd", 1), ("fz", 0))
        self.assertIs(is_sound(ring_of(26, wide)), True)

    def test_unsound(self):
        for plan in DRAWN + [ring_of(many, {}) for many in range(1, 7)]:
            if looks.sound(plan):
                with self.assertRaises(NoPaper):
                    unsound(plan)
            else:
                paper = unsound(plan)
                self.assertIn(paper, papers(plan, paper[2]), plan)
                self.assertIs(is_unsound(plan, paper), True)
                self.assertEqual(unsound(plan), paper)

    def test_is_unsound(self):
        for plan in DRAWN[:120]:
            names = [step[0] for step in plan]
            rows = [row for many in range(len(names) + 1) for row in permutations(names, many)]
            for variant in looks.subsets("uvx"):
                right = papers(plan, variant)
                for word in ("twice", "ring"):
                    for row in rows:
                        self.assertIs(is_unsound(plan, (word, row, variant)), (word, row, variant) in right)

    def test_is_unsound_wrong_things(self):
        two = (("a", "m", ("g",), "f", (("x", 1),)), ("b", "n", ("f",), "g", ()), ("c", "m", (), "g", ()))
        paper = ("ring", ("a", "b"), ("x", "y"))
        self.assertIs(is_unsound(two, paper), True)
        self.assertIs(is_unsound(two, ("ring", ("b", "a"), ("u", "v", "w", "x", "y", "z", "zz", "zzz"))), True)
        self.assertIs(is_unsound(two, ("twice", ("b", "c"), ())), True)
        for bad in spoiled(paper) + spoiled(("twice", ("b", "c"), ("x",))) + list(PLAIN) + [
                ("ring", ("a", "b", "a", "b"), ("x",)), ("ring", ("a", "b"), ()), ("ring", ("a",), ("x",)),
                ("ring", ("a", "b"), ("y", "x")), ("ring", ("a", "b"), ("x", "x")), ("ring", ("a", "z"), ("x",)), ("twice", ("c", "b"), ()),
                ("twice", ("b", "b"), ()), ("twice", ("b", "c", "c"), ()), ("twice", ("b", "d"), ()),
                ("twice", ("a", "b"), ("x",)), ("twice", ("b", "c")), ("twice", ("b", "c"), (), ()), ("ring", (), ("x",))]:
            self.assertIs(is_unsound(two, bad), False, bad)


class OneOrder(unittest.TestCase):
    def test_drawn(self):
        rows = 0
        for plan in SOUND:
            orders = [row for row in permutations([step[0] for step in plan]) if keeps(plan, row)]
            rings = loose(plan)
            self.assertIs(not orders, bool(rings))
            if orders:
                self.assertIn(one_order(plan), orders)
                self.assertEqual(one_order(plan), one_order(plan))
                self.assertRaises(NoPaper, loose_ring, plan)
            else:
                rows += 1
                self.assertRaises(NoOrder, one_order, plan)
                self.assertIn(loose_ring(plan), rings)
                self.assertIs(is_loose_ring(plan, loose_ring(plan)), True)
            for row in permutations([step[0] for step in plan]):
                self.assertIs(is_one_order(plan, row), row in orders)
        self.assertGreater(rows, 5)

    def test_rings(self):
        for many in range(4, 9):
            plan = ring_of(many, {0: (("x", 1),), many // 2: (("x", 0),)})
            self.assertRaises(NoOrder, one_order, plan)
            ring = loose_ring(plan)
            self.assertEqual(sorted(ring), [step[0] for step in plan])
            for turn in range(many):
                self.assertIs(is_loose_ring(plan, ring[turn:] + ring[:turn]), True)
            self.assertIs(is_loose_ring(plan, ring[::-1]), False)
            self.assertIs(is_loose_ring(plan, ring[1:]), False)
            self.assertIs(is_loose_ring(plan, ring + ring), False)
            near = ring_of(many, {0: (("x", 1),), 1: (("x", 0),)})
            self.assertRaises(NoPaper, loose_ring, near)
            self.assertIs(is_one_order(near, one_order(near)), True)
            self.assertIs(is_loose_ring(near, ring), False)

    def test_edges(self):
        self.assertEqual(one_order(()), ())
        self.assertIs(is_one_order((), ()), True)
        self.assertIs(is_loose_ring((), ()), False)
        self.assertIs(is_loose_ring(FOUR, ()), False)
        plan = (("a", "m", (), "f", ()), ("b", "m", ("f", "f"), "g", ()), ("c", "m", (), "h", ()))
        self.assertIs(is_one_order(plan, ("c", "a", "b")), True)
        for bad in spoiled(("c", "a", "b")) + [thing for thing in PLAIN if thing != ("a", "b", "c")] + [
                ("b", "a", "c"), ("a", "b"), ("a", "b", "c", "c"), ("a", "b", "d"), ("a", "a", "b")]:
            self.assertIs(is_one_order(plan, bad), False)
        for bad in spoiled(("b", "c", "d", "a")) + list(PLAIN) + [("b", "c"), ("a", "c", "b", "d"), ("x",), ("a", "x")]:
            self.assertIs(is_loose_ring(FOUR, bad), False)


class Needs(unittest.TestCase):
    def test_unmade_and_wanted(self):
        self.assertEqual(unmade_at(FOUR, "none"), ())
        two = (("a", "m", (), "f", (("x", 0), ("y", 0))), ("b", "m", (), "f", (("x", 1),)))
        self.assertEqual(unmade_at(two, "f"), ("y",))
        self.assertEqual(wanted(FOUR), ("f", "h"))
        for plan in SOUND:
            variants = looks.subsets(looks.flags(plan))
            self.assertEqual(wanted(plan), tuple(sorted({one for told in variants for one in looks.needed(plan, told)})))
            for sheet in "abcde":
                bare = [told for told in variants if sheet not in [step[3] for step in looks.working(plan, told)]]
                self.assertEqual(unmade_at(plan, sheet), bare[0] if bare else None)

    def needed(self, plan, variant, sheets):
        steps = looks.working(plan, variant)
        found = {step[0] for step in steps if step[3] in sheets}
        for _ in steps:
            found |= {one[0] for one in steps for other in steps if other[0] in found and looks.feeds(one, other)}
        return found

    def test_needed(self):
        for plan in SOUND:
            variants = looks.subsets(looks.flags(plan))
            for sheets in ((), ("a",), ("b", "d"), ("c", "e", "none"), ("none",)):
                lots = [self.needed(plan, variant, sheets) for variant in variants]
                for variant, lot in zip(variants, lots):
                    self.assertEqual(needed_at(plan, variant, sheets), tuple(sorted(lot)))
                self.assertEqual(needed_some(plan, sheets), tuple(sorted(set.union(*lots))))
                self.assertEqual(needed_each(plan, sheets), tuple(sorted(set.intersection(*lots))))

    def test_needed_at_other_flags(self):
        self.assertEqual(needed_at(FOUR, ("y",), ("k",)), ("b", "c", "d"))
        self.assertEqual(needed_at(FOUR, ("x", "y"), ("k",)), ("d",))
        self.assertEqual((needed_some(FOUR, ("k",)), needed_each(FOUR, ("k",))), (("b", "c", "d"), ("d",)))


class Alike(unittest.TestCase):
    def trees(self, plan, variant, sheet):
        """What the SHEET holds in the end, as a tree over what SHEETS hold ahead."""
        own = [step for step in looks.working(plan, variant) if step[3] == sheet]
        if not own:
            return sheet
        return (own[0][1], *[self.trees(plan, variant, read) for read in own[0][2]])

    def test_told_alike(self):
        unlike = 0
        for plan in SOUND:
            variants = looks.subsets((*looks.flags(plan), "z"))
            for sheet in ("a", "c", "e", "none"):
                for one in variants:
                    for other in variants:
                        expected = self.trees(plan, one, sheet) == self.trees(plan, other, sheet)
                        unlike += not expected
                        self.assertIs(told_alike(plan, sheet, one, other), expected)
        self.assertGreater(unlike, 50)

    def test_felt_flags(self):
        for plan in SOUND:
            flags = looks.flags(plan)
            for sheet in ("a", "b", "c", "none"):
                felt = {flag for flag in flags for variant in looks.subsets(set(flags) - {flag})
                        if self.trees(plan, variant, sheet) != self.trees(plan, sorted((*variant, flag)), sheet)}
                self.assertEqual(felt_flags(plan, sheet), tuple(sorted(felt)))

    def test_felt_flags_are_enough(self):
        for plan in SOUND:
            for sheet in ("a", "d"):
                felt = felt_flags(plan, sheet)
                for one in looks.subsets(looks.flags(plan)):
                    for other in looks.subsets(looks.flags(plan)):
                        if [flag for flag in one if flag in felt] == [flag for flag in other if flag in felt]:
                            self.assertIs(told_alike(plan, sheet, one, other), True)

    def test_same_method_other_way(self):
        plan = (("a", "m", ("in",), "out", (("x", 0),)), ("b", "m", ("in",), "out", (("x", 1),)),
                ("c", "n", ("in", "old"), "far", (("x", 0),)), ("d", "n", ("old", "in"), "far", (("x", 1),)))
        self.assertIs(told_alike(plan, "out", (), ("x",)), True)
        self.assertIs(told_alike(plan, "far", (), ("x",)), False)
        self.assertEqual((felt_flags(plan, "out"), felt_flags(plan, "far")), ((), ("x",)))

    def test_no_reads_and_unlike_many_reads(self):
        plan = (("a", "m", (), "out", (("x", 0),)), ("b", "m", ("in",), "out", (("x", 1), ("y", 0))),
                ("c", "m", ("in", "in"), "out", (("x", 1), ("y", 1))))
        self.assertEqual(felt_flags(plan, "out"), ("x", "y"))
        self.assertIs(told_alike(plan, "out", (), ("y",)), True)

    def test_steps_in_a_row_of_any_length(self):
        names = [one + other + third for one in "abcdefghij" for other in "abcdefghij" for third in "abcdefghij"]
        for row in (names, names[::-1]):
            steps = [("s" + sheet, "m", (row[at - 1] if at else "start",), sheet, ()) for at, sheet in enumerate(row)]
            plan = tuple(sorted((*steps, ("zz", "f", (), "start", (("x", 1),)))))
            self.assertIs(is_sound(plan), True)
            self.assertIs(told_alike(plan, row[-1], (), ("x",)), False)
            self.assertIs(told_alike(plan, row[-1], (), ("y",)), True)
            self.assertEqual(felt_flags(plan, row[-1]), ("x",))
