"""The whole program: one story told to a Board, to the judge, as texts and to a desk; and what [1] guarantees."""

import unittest

from reportalike.board import Board
from reportalike.desk import replies
from reportalike.errors import NoPaper
from reportalike.free import alike, alike_to, apart_paper, classes_of, free_world, how_many_classes
from reportalike.judge import blame, falls_at, is_blame, is_paper, leans_on, paper, stands, without_seen
from reportalike.kept import least_promise
from reportalike.runs import is_runs, is_seen
from reportalike.texts import (
    counts_text, plan_in, plan_text, run_in, run_text, runs_in, runs_text, seen_in, seen_text, world_in, world_text,
)
from reportalike.turned import fusable, fused, is_least_plan, least_plan, parted, slimmed
from reportalike.why import in_each, is_why, needless, why
from reportalike.worlds import is_world, same_in_all
from tests import asklooks, drawn, looks
from tests.promises import COLUMNS, promises
from tests.things import listed

PLAN = (
    ("add", "sum", ("north", "south"), "all", ()), ("cut", "top", ("all",), "best", ()), ("low", "avg", ("north",), "min", ()),
    ("mean", "avg", ("south",), "mid", (("deep", 1),)),
)
TOLD = (("all", "o"), ("north", "m"), ("south", "n"))
OTHER = (("add", "sum", ("south", "north"), "all", ()), *PLAN[1:])
STORY = (
    ("tell", PLAN, ("deep",), TOLD), ("tell", PLAN, ("deep",), (("all", "o"), ("north", "k"), ("south", "n"))), ("see", (0, "north"), (1, "north")),
    ("see", (0, "best"), (0, "mid")), ("tell", OTHER, (), TOLD), ("see", (0, "north"), (0, "south")), ("doubt", 1), ("see", (2, "best"), (1, "best")),
    ("turn", 0, (), TOLD), ("undo",), ("recount", 2, (("all", "k"), ("north", "n"), ("south", "n"))), ("replan", 1, PLAN[:3]), ("undo",), ("undo",),
    ("recount", 2, ()), ("see", (0, "mid"), (2, "mid")), ("doubt", 9), ("replan", 2, PLAN), ("see", (2, "all"), (0, "all")), ("undo",),
)


def line_of(deed):
    """The request of a deed."""
    word, *row = deed
    if word == "see":
        return "see " + " ".join(f"{place}.{sheet}" for place, sheet in row)
    if word == "tell":
        return "tell " + " @ ".join((plan_text(row[0]), " ".join(row[1]) or "-", counts_text(row[2])))
    if word == "turn":
        return f"turn {row[0]} {' '.join(row[1]) or '-'} @ {counts_text(row[2])}"
    if word == "recount":
        return f"recount {row[0]} {counts_text(row[1])}"
    if word == "replan":
        return f"replan {row[0]} {plan_text(row[1])}"
    return " ".join((word, *map(str, row)))


def outcome(function, *row):
    """What comes of a call, or the error's name and what it keeps."""
    try:
        return function(*row)
    except (LookupError, ValueError) as error:
        if type(error).__module__ != "reportalike.errors":
            raise
        return type(error).__name__, *vars(error).values()


def reply_of(word, told):
    """The reply to a deed of which this came."""
    if isinstance(told, tuple) and told and isinstance(told[0], str):
        kept = [f"{one[0]}.{one[1]}" if isinstance(one, tuple) else str(one) for one in told[1:]]
        return " ".join(("refused", *told[:1], *kept))
    if word == "undo":
        return "done"
    if word == "see":
        return "yes" if told else "no"
    return str(told) if word == "tell" else seen_text((told,) if word == "doubt" else told)


def told_of(runs, seen):
    """PROMISES of all words about these RUNS."""
    late = runs[-1]
    north, south, best = [(len(runs) - 1, sheet) for sheet in ("north", "south", "best")]
    pair = (runs * 2)[:2]
    made = [sheet for sheet in looks.held_sheets(pair[1]) if looks.maker_of(pair[1], sheet)]
    among = tuple(one for one in seen if max(spot[0] for spot in one) < min(2, len(runs)) and not all(
        place == 1 and sheet in made for place, sheet in one))
    own = tuple(one for one in seen if all(place == 0 for place, _ in one))
    fresh = (PLAN, ("deep",), (("all", "o"), ("north", "n"), ("south", "k")))
    days = tuple(tuple((sheet, dict(run[2])[sheet]) for sheet in ("north", "south")) for run in runs)
    asking = tuple((sheet, reads, may) for sheet, reads, may in (("all", ("north", "south"), ("best",)), ("best", ("north",), ("all",))))
    copied = (("come", "west", (0, "north")), ("come", "west", south), ("do", "west", "add"), ("lend", "home", "west", "all"), ("do", "home", "cut"))
    kind = (("method", ""), ("read", "0"))
    says = (("east", (0, "north"), 5), ("home", south, 5), ("west", best, 7), ("west", (0, "best"), 8))
    return (
        ("sound", late[0]), ("sound", (*PLAN, ("sum", "f", ("best",), "north", ()))), ("plans", runs[0][0], late[0], ("all", "best", "mid"), ()),
        ("plans", runs[0][0], late[0], ("all", "best"), (("sum", "even"),)), ("alike", runs, seen, (0, "best"), best), ("alike", runs, seen, north, south),
        ("orders", runs, seen, 0, ()), ("orders", runs, seen, 0, (("add", "cut"),)), ("right", runs, seen, 0, (("add", "cut"),)),
        ("right", runs, seen, len(runs) - 1, (("cut", "add"),)), ("hit", runs, seen, kind, (0, "all"), (len(runs) - 1, "all")),
        ("hit", runs, seen, kind[1:], (0, "min"), (0, "best")), ("kind", PLAN[1:3], kind), ("kind", PLAN[:1], kind), ("needed", pair, among, "add"),
        ("needed", pair, among, "low"), ("hand", runs, seen, fresh, "all"), ("hand", runs, seen, fresh, "mid"), ("hand", runs, seen, late, "best"),
        ("ends", (asking, days, (), ()), 0, "all"), ("ends", (asking, days, ((0, "all", ()),), ()), 0, "best"), ("moment", runs, seen, copied, "west", ("all",)),
        ("moment", runs, seen, copied, "home", ("all", "best")), ("moment", runs, seen, copied, "west", ("north", "south")),
        ("letters", runs, seen, (north, south), ((0, "north"), north), ((0, 1),), "best"), ("letters", runs, seen, (north, south), ((0, "north"),), (), "best"),
        ("told", runs, seen, ((0, "north"), south), best), ("told", runs, seen, (north,), (0, "min")), ("cleared", runs[0], own, ("south",), ("all",), "best"),
        ("cleared", runs[0], own, ("south",), (), "best"), ("holds", runs, seen, says, (("east",), ("west",)), (0, "north"), 5),
        ("holds", runs, seen, says, ((), ("home",)), best, 7),
    )


class Story(unittest.TestCase):
    def test_one_story(self):
        board, lines, told, seen_words = Board(), [], [], {}
        for deed in STORY:
            lines.append(line_of(deed))
            told.append(reply_of(deed[0], outcome(getattr(board, deed[0]), *deed[1:])))
            self.check_texts(board)
            self.check_desk(board, lines, told)
            for promise in told_of(board.runs(), board.seen()):
                answer = self.check_promise(promise)
                seen_words.setdefault(promise[0], set()).add(answer)
        self.assertIn("refused NoSheet north", told)
        self.assertIn("refused NoNumber 9", told)
        self.assertIn("refused NoSpot 2.mid", told)
        self.assertEqual(seen_words, {word: {True, False} for word in COLUMNS})
        while board.deeds():
            board.undo()
            lines.append("undo")
            told.append("done")
            self.check_desk(board, lines, told)
        self.assertEqual(board, Board())

    def check_texts(self, board):
        runs, seen = board.runs(), board.seen()
        self.assertEqual(runs_in(runs_text(runs)), runs)
        self.assertEqual(tuple(run_in(run_text(run)) for run in runs), runs)
        self.assertEqual(tuple(plan_in(plan_text(run[0])) for run in runs), tuple(run[0] for run in runs))
        self.assertEqual(seen_in(seen_text(seen)), seen)
        self.assertEqual(world_in(world_text(board.world())), board.world())
        self.assertTrue(is_runs(runs_in(runs_text(runs))) and is_seen(runs, seen_in(seen_text(seen))))
        again = Board()
        for run in runs_in(runs_text(runs)):
            again.tell(*run)
        for one, other in seen_in(seen_text(seen)):
            again.see(one, other)
        self.assertTrue(again == board)
        self.assertEqual((again.classes(), again.world()), (board.classes(), board.world()))

    def check_promise(self, promise):
        """The judge says the same of a PROMISE, of it in lists, and by the function of its word."""
        answer = stands(promise)
        self.assertIs(answer, COLUMNS[promise[0]][0](*promise[1:]))
        self.assertIs(stands(listed(promise)), answer)
        if answer:
            self.assertRaises(NoPaper, paper, promise)
        else:
            found = paper(promise)
            self.assertIs(is_paper(promise, found), True)
            self.assertIs(is_paper(listed(promise), found), True)
            if is_world(found):
                self.assertIs(is_paper(promise, world_in(world_text(found))), True)
        self.assertIs(falls_at(promise, ()), None if answer else 0)
        self.assertEqual(without_seen(promise, ()), promise)
        for place in leans_on(promise):
            self.assertIs(stands(without_seen(promise, (place,))), False)
        return answer

    def check_desk(self, board, lines, told):
        runs, seen = board.runs(), board.seen()
        row = looks.spots(runs)
        asked, expected = ["runs", "seen", "many", "deeds", "classes", "needless"], [
            runs_text(runs) or "-", seen_text(seen), str(len(board)), str(board.deeds()), str(how_many_classes(runs, seen)),
            " ".join(map(str, needless(runs, seen))) or "-"]
        for (place, sheet), (far, more) in zip(row, row[2:]):
            same = board.alike((place, sheet), (far, more))
            asked += [f"alike {place}.{sheet} {far}.{more}", f"class {place}.{sheet}", f"leans {place}.{sheet} {far}.{more}"]
            expected += ["yes" if same else "no", " ".join(f"{one}.{two}" for one, two in alike_to(runs, seen, (place, sheet)))]
            leans = outcome(in_each, runs, seen, (place, sheet), (far, more))
            expected.append("refused NoPaper" if leans == ("NoPaper",) else " ".join(map(str, leans)) or "-")
        for place, run in enumerate(runs):
            asked.append(f"promise {place} 1")
            made = tuple(sorted({step[3] for step in looks.working(run[0], run[1])}))
            expected.append(str(least_promise(run, made, looks.needed(run[0], run[1]), 1)))
        self.assertEqual(replies("\n".join([*lines, *asked])), [*told, *expected])


class Guarantees(unittest.TestCase):
    def test_a_one_free_run(self):
        """(a) Alike exactly if in one class of the free run, which is a WORLD that parts all others."""
        for runs in drawn.draws(270, 50, drawn.small_runs):
            board = Board()
            for run in runs:
                board.tell(*run)
            for one, other in drawn.draws(271, 1, lambda rng: drawn.seen(rng, runs, most=2))[0]:
                board.see(one, other)
            numbers, table, row = looks.numbers(board.world(), runs), dict(board.classes()), looks.spots(runs)
            tables = looks.agreeing_worlds(runs, board.seen(), 2)
            self.assertTrue(looks.agrees(board.world(), runs, board.seen()))
            for one, other in looks.pairs_of(row):
                same = board.alike(one, other)
                self.assertEqual({same}, {table[one] == table[other], numbers[one] == numbers[other], stands(("alike", runs, board.seen(), one, other))})
                if same:
                    self.assertTrue(all(held[one] == held[other] for held in tables))
                    self.assertTrue(same_in_all(runs, board.seen(), one, other, 2))
                    self.assertTrue(is_why(runs, board.seen(), one, other, why(runs, board.seen(), one, other)))
                    self.assertIsNone(blame(runs, board.seen(), one, other))
                else:
                    self.assertTrue(is_paper(("alike", runs, board.seen(), one, other), board.paper(one, other)))
                    self.assertTrue(is_blame(runs, board.seen(), one, other, blame(runs, board.seen(), one, other)))

    def test_b_sound_plans(self):
        """(b) Sound exactly if at each VARIANT no two makers and no ring run together."""
        found = [0, 0]
        for plan in drawn.draws(272, 300, lambda rng: drawn.plan(rng, sheets="abc")):
            bad = False
            for variant in looks.subsets(looks.flags(plan)):
                made = [step[3] for step in looks.working(plan, variant)]
                bad = bad or len(set(made)) < len(made) or bool(looks.rings(looks.working(plan, variant)))
            self.assertIs(stands(("sound", plan)), not bad)
            self.assertEqual(plan_in(plan_text(plan)), plan)
            found[bad] += 1
        self.assertGreater(min(found), 50)

    def test_c_and_d_right_exactly_as_told(self):
        """(c), (d) Each PROMISE stands or has a PAPER, never both; with more seen, none of these few falls."""
        steady = ("alike", "orders", "right", "hit", "moment", "letters", "told", "cleared")
        for word, row in promises(273, 25).items():
            for promise in row:
                if stands(promise):
                    self.assertRaises(NoPaper, paper, promise)
                else:
                    self.assertIs(COLUMNS[word][1] is None or COLUMNS[word][1](*promise[1:], paper(promise)), True)
                    if word in steady:
                        places = tuple(place for place, _ in enumerate(promise[2]))
                        self.assertIs(stands(without_seen(promise, places)), False)

    def test_c_askers_and_steps_are_one_where_nobody_asks(self):
        """ASKERS that ask for nothing are STEPS: their classes are those of the RUNS."""
        from reportalike.asked import asked_classes
        for run in drawn.draws(274, 60, lambda rng: drawn.wide_run(rng, 4)):
            steps = tuple(sorted((sheet, reads, ()) for _, _, reads, sheet, _ in run[0]))
            plan = tuple(sorted((step[0], "m" + step[3], *step[2:]) for step in run[0]))
            days = (run[2], tuple((sheet, "m") for sheet, _ in run[2]))
            runs = tuple((plan, (), counts) for counts in days)
            lots = {}
            for spot, number in classes_of(runs, ()):
                lots.setdefault(number, []).append(spot)
            row = asklooks.spots((steps, days, (), ()))
            expected = sorted(tuple(spot for spot in lot if spot in row) for lot in lots.values())
            self.assertEqual(asked_classes((steps, days, (), ())), tuple(expected))

    def test_e_plans_turned_and_written(self):
        """(e) PLANS turned into others tell the same, as texts, too."""
        for plan in drawn.draws(275, 120, drawn.dense_plan):
            goals = tuple(sorted({step[3] for step in plan}))[-2:]
            self.assertIs(stands(("plans", plan, slimmed(plan, goals), goals, ())), True)
            for name, second in fusable(plan, goals, ()):
                self.assertIs(stands(("plans", plan, plan_in(plan_text(fused(plan, name, second))), goals, ())), True)
            for variant in looks.subsets(looks.flags(plan)):
                least = plan_in(plan_text(least_plan(plan, variant, goals)))
                self.assertIs(is_least_plan(plan, variant, goals, least), True)
            name = plan[0][0]
            self.assertIs(stands(("plans", plan, parted(plan, name, "w", "zz"), goals, (("f", "even"),))), True)

    def test_one_free_run_for_all(self):
        """The same free WORLD stands behind the Board, the judge and the functions."""
        for runs in drawn.draws(276, 40, drawn.runs):
            board = Board()
            for run in runs:
                board.tell(*run)
            seen = drawn.draws(277, 1, lambda rng: drawn.seen(rng, runs))[0]
            for one, other in seen:
                board.see(one, other)
            self.assertEqual((board.runs(), board.seen()), (runs, seen))
            self.assertEqual(board.world(), free_world(runs, seen))
            for one, other in looks.pairs_of(looks.spots(runs))[:12]:
                promise = ("alike", runs, seen, one, other)
                self.assertEqual({board.alike(one, other), stands(promise)}, {alike(runs, seen, one, other)})
                self.assertEqual(outcome(board.paper, one, other), outcome(paper, promise))
                self.assertEqual(outcome(paper, promise), outcome(apart_paper, runs, seen, one, other))


if __name__ == "__main__":
    unittest.main()
