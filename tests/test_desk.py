"""desk.py: requests, and what is replied to them."""

import random
import re
import unittest

from reportalike.board import Board
from reportalike.changes import unfelt
from reportalike.desk import is_request, replies
from reportalike.errors import BadLine, NoNumber, NoPaper, NoSheet, NoSpot, NothingDone
from reportalike.free import alike_to, how_many_classes
from reportalike.kept import least_promise
from reportalike.texts import counts_text, plan_text, run_text, runs_text, seen_text
from reportalike.why import in_each, needless
from tests import drawn, looks
from tests.test_texts import NAME, PLACE, is_text, own_plan, rising
from tests.things import PLAIN

TOLD = "tell s: f(a) > b; t: f(b) > c if +deep @ deep @ a=m"
GOOD = (
    TOLD, "tell - @ - @ -", "tell p: f(a) > x @ - @ -", "recount 0 -", "recount 12 a=m b=m", "turn 0 - @ -", "turn 3 u v @ a=m", "replan 0 -",
    "replan 1 p: f(a b) > x if +u -v; q: g() > y", "see 0.a 0.a", "see 12.a 0.b", "doubt 0", "doubt 999", "undo", "runs", "seen", "many", "deeds",
    "classes", "alike 0.a 1.b", "class 7.abcdefgh", "needless", "leans 0.a 0.b", "unfelt 0 1 a", "promise 0 0", "promise 3 " + "9" * 400,
)
LONE = ("undo", "runs", "seen", "many", "deeds", "classes", "needless")


def is_line(text):
    """The test's own look at a request."""
    if text in LONE or re.search(r"\d{401}", text):
        return text in LONE
    word, _, rest = text.partition(" ")
    spot = rf"{PLACE}\.{NAME}"
    if word == "tell":
        row = rest.split(" @ ")
        return len(row) == 3 and is_text("plan", row[0]) and looks.sound(own_plan(row[0])) and rising("flags", row[1]) and is_text("counts", row[2])
    forms = {"see": f"{spot} {spot}", "alike": f"{spot} {spot}", "leans": f"{spot} {spot}", "class": spot, "doubt": PLACE,
             "unfelt": f"{PLACE} {PLACE} {NAME}", "promise": f"{PLACE} {PLACE}"}
    if word in forms:
        return re.fullmatch(forms[word], rest) is not None
    place, _, rest = rest.partition(" ")
    if not re.fullmatch(PLACE, place):
        return False
    if word == "recount":
        return is_text("counts", rest)
    if word == "replan":
        return is_text("plan", rest) and looks.sound(own_plan(rest))
    row = rest.split(" @ ")
    return word == "turn" and len(row) == 2 and rising("flags", row[0]) and is_text("counts", row[1])


class Requests(unittest.TestCase):
    def test_good_ones(self):
        for line in GOOD:
            self.assertIs(is_line(line), True, line)
            self.assertIs(is_request(line), True, line)

    def test_nearly_good_ones(self):
        right = wrong = 0
        for line in GOOD:
            near = [line + " ", " " + line, line + "\n", "\n" + line, line.upper(), line.capitalize(), line.replace(" ", "  "), line + " -", line + " 0",
                    line + " a", line.replace("0", "00"), line.replace("0", "-1"), line.replace("0", "-0"), line.replace("0", "+0"), line.replace("0", ""),
                    line.replace("1", "01"), line.replace(" @ ", " "), line.replace(" @ ", "@"), line.replace(".", " "), line.replace("a", "A"),
                    line.replace("a", ""), line.replace(" ", "\t"), line.replace("0", "\u0660"), line.replace("-", ""), line.replace("u v", "v u"),
                    line.replace("u v", "u u"), line.replace("a=m", "b=m a=m"), line.replace("0 1", "1"), line.replace("0 ", "0 0 ", 1)]
            near += [line[:at] + line[at + 1:] for at in range(len(line[:60]))] + [line[:at] + line[at] + line[at:] for at in range(len(line[:60]))]
            near += [" ".join(line.split(" ")[:many]) for many in range(len(line.split(" ")))]
            for other in near:
                self.assertIs(is_request(other), is_line(other), other)
                right, wrong = right + is_line(other), wrong + (not is_line(other))
        self.assertGreater(min(right, wrong), 150)

    def test_bad_ones(self):
        for line in ("", " ", "-", "look", "tell", "tell ", "tell -", "tell - @ -", "tell - @ - @ - @ -", "tell -@ - @ -", "see 0.a", "see 0.a 0.b 0.c",
                     "see 0.a,0.b", "see a.0 0.a", "see 0.a -1.b", "doubt -1", "doubt", "doubt 0 1", "doubt 00", "undo 1", "undo ", "Undo", "runs -",
                     "class", "class 0.a 0.b", "unfelt 0 1", "unfelt 0 1 A", "unfelt 0 1 -", "unfelt 0 a 1", "promise 0", "promise 0 -1", "promise 0 01",
                     "promise -1 0", "promise 0 1 2", "turn 0 -", "turn 0 @ -", "turn 0 - @", "turn - @ -", "recount 0", "recount -", "recount 0 a", "recount a=m",
                     "replan 0", "replan 0 q: g() > y; p: g() > z", "unfelt 0 1 abcdefghi", "promise 0 " + "9" * 401, "doubt " + "9" * 5000):
            self.assertIs(is_request(line), False, line)

    def test_plans_that_are_not_sound(self):
        for plan in ("p: f() > x; q: g() > x", "p: f(x) > x", "p: f(y) > x; q: f(x) > y", "p: f() > x if +u; q: g() > x if +v"):
            self.assertIs(is_text("plan", plan), True)
            for line in ("tell " + plan + " @ - @ -", "replan 0 " + plan):
                self.assertIs(is_request(line), False)
        self.assertIs(is_request("replan 0 p: f() > x if +u; q: g() > x if -u"), True)

    def test_things(self):
        for thing in [*PLAIN, ("undo",), ["undo"], b"undo", 0, None]:
            self.assertIs(is_request(thing), repr(thing) == "'seen'", thing)


class Replies(unittest.TestCase):
    def test_lines(self):
        self.assertEqual(replies(""), [])
        self.assertEqual(replies("many"), ["0"])
        for text, number in (("\n", 0), ("many\n", 1), ("many\n\nmany", 1), ("look", 0), ("undo\nundo\nrecount 5 -\nlook\nmore", 3), ("many\r\nmany", 0),
                             ("many many", 0), (" ", 0), ("undo\nlook\nlook", 1)):
            with self.assertRaises(BadLine) as caught:
                replies(text)
            self.assertEqual(caught.exception.number, number)
        self.assertEqual(replies("undo\nundo"), ["refused NothingDone"] * 2)

    def test_each_call_has_a_new_board(self):
        for _ in range(2):
            found = replies(TOLD + "\nmany")
            self.assertEqual(found, ["0", "1"])
            found.append("more")

    def check(self, lines, expected):
        self.assertEqual(replies("\n".join(lines)), expected)

    def test_no_runs(self):
        self.check(["runs", "seen", "many", "deeds", "classes", "needless", "alike 0.a 0.b", "class 1.c", "leans 2.a 0.b", "unfelt 3 4 a", "promise 5 0",
                    "see 6.a 0.b", "doubt 7", "undo", "recount 8 -", "turn 9 - @ -", "replan 10 -"],
                   ["-", "-", "0", "0", "0", "-", "refused NoSpot 0.a", "refused NoSpot 1.c", "refused NoSpot 2.a", "refused NoNumber 3", "refused NoNumber 5",
                    "refused NoSpot 6.a", "refused NoNumber 7", "refused NothingDone", "refused NoNumber 8", "refused NoNumber 9", "refused NoNumber 10"])

    def test_deeds(self):
        self.check([TOLD, "tell s: f(a) > b @ - @ a=n k=o", "see 0.c 1.b", "see 0.a 0.b", "see 1.k 1.k", "seen", "recount 1 a=n", "turn 0 - @ a=m", "seen", "undo",
                    "seen", "doubt 1", "seen", "replan 1 -", "seen", "undo", "undo", "deeds", "many", "runs"],
                   ["0", "1", "no", "no", "yes", "0.a~0.b 0.c~1.b", "-", "0.c~1.b", "0.a~0.b", "done", "0.a~0.b 0.c~1.b", "0.c~1.b", "0.a~0.b", "-", "0.a~0.b",
                    "done", "done", "6", "2", "s: f(a) > b; t: f(b) > c if +deep @ deep @ a=m | s: f(a) > b @ - @ a=n"])

    def test_refusals(self):
        self.check([TOLD, "tell p: f(x a) > y @ - @ -", "tell p: f(x) > y if +u @ - @ -", "many", "recount 0 b=m", "recount 2 b=m", "turn 0 - @ -", "turn 5 - @ -",
                    "replan 0 p: f(a y) > b", "replan 7 p: f(a y) > b", "see 0.a 0.z", "see 0.y 0.z", "see 0.a 1.a", "doubt 0", "deeds", "seen", "leans 0.a 0.b",
                    "leans 0.a 0.q", "leans 0.p 0.q", "class 0.q", "alike 9.a 0.q"],
                   ["0", "refused NoSheet a", "1", "2", "refused NoSheet a", "refused NoNumber 2", "refused NoSheet a", "refused NoNumber 5", "refused NoSheet y",
                    "refused NoNumber 7", "refused NoSpot 0.z", "refused NoSpot 0.y", "refused NoSpot 1.a", "refused NoNumber 0", "2", "-",
                    "refused NoPaper", "refused NoSpot 0.q", "refused NoSpot 0.p", "refused NoSpot 0.q", "refused NoSpot 9.a"])

    def test_places_that_are_none(self):
        self.check([TOLD, "unfelt 0 1 b", "unfelt 1 0 b", "unfelt 3 2 b", "unfelt 0 0 none", "promise 1 0", "promise 0 0", "promise 0 " + "9" * 41],
                   ["0", "refused NoNumber 1", "refused NoNumber 1", "refused NoNumber 3", "yes", "refused NoNumber 1", "0", "2"])

    def test_unfelt_and_promise(self):
        other = "tell s: f(b) > c; t: g(a) > b if +on @ - @ b=m"
        self.check([TOLD, other, "unfelt 0 1 c", "unfelt 0 1 b", "unfelt 1 1 b", "unfelt 0 1 a", "turn 0 - @ a=m", "unfelt 1 0 b", "promise 1 1", "promise 1 0"],
                   ["0", "1", "no", "no", "yes", "yes", "-", "no", "1", "0"])


class Stories(unittest.TestCase):
    def reply(self, board, line):
        """The test's own reply, by the Board and by the functions that the document names."""
        word, _, rest = line.partition(" ")
        if line in LONE and word != "undo":
            runs, seen = board.runs(), board.seen()
            return {"runs": runs_text(runs) or "-", "seen": seen_text(seen), "many": str(len(board)), "deeds": str(board.deeds()),
                    "classes": str(how_many_classes(runs, seen)), "needless": " ".join(map(str, needless(runs, seen))) or "-"}[word]
        spots = [(int(one.split(".")[0]), one.split(".")[1]) for one in rest.split() if re.fullmatch(r"\d+\.\w+", one)]
        if word in ("see", "alike"):
            return "yes" if getattr(board, word)(*spots) else "no"
        if word == "class":
            return " ".join(f"{place}.{sheet}" for place, sheet in alike_to(board.runs(), board.seen(), *spots))
        if word == "leans":
            return " ".join(map(str, in_each(board.runs(), board.seen(), *spots))) or "-"
        if word == "undo":
            board.undo()
            return "done"
        if word == "unfelt":
            one, other, sheet = rest.split()
            for place in (int(one), int(other)):
                if place >= len(board):
                    raise NoNumber(place)
            return "yes" if unfelt(board.runs()[int(one)][:2], board.runs()[int(other)][:2], sheet) else "no"
        if word == "promise":
            place, many = map(int, rest.split())
            if place >= len(board):
                raise NoNumber(place)
            run = board.runs()[place]
            goals = tuple(sorted({step[3] for step in looks.working(run[0], run[1])}))
            return str(least_promise(run, goals, looks.needed(run[0], run[1]), many))
        return self.deed(board, word, rest)

    def deed(self, board, word, rest):
        row = rest.split(" @ ")
        if word == "tell":
            return str(board.tell(own_plan(row[0]), self.flags(row[1]), self.counts(row[2])))
        place, _, told = row[0].partition(" ")
        if word == "doubt":
            return seen_text((board.doubt(int(place)),))
        if word == "turn":
            return seen_text(board.turn(int(place), self.flags(told), self.counts(row[1])))
        if word == "recount":
            return seen_text(board.recount(int(place), self.counts(told)))
        return seen_text(board.replan(int(place), own_plan(told)))

    def flags(self, text):
        return () if text == "-" else tuple(text.split())

    def counts(self, text):
        return () if text == "-" else tuple(tuple(part.split("=")) for part in text.split())

    def expected(self, board, line):
        try:
            return self.reply(board, line)
        except NoSheet as error:
            return "refused NoSheet " + error.sheet
        except NoNumber as error:
            return "refused NoNumber " + str(error.number)
        except NoSpot as error:
            return f"refused NoSpot {error.spot[0]}.{error.spot[1]}"
        except NoPaper:
            return "refused NoPaper"
        except NothingDone:
            return "refused NothingDone"

    def line(self, rng, many):
        """A line about RUNS that are there, and some that are not."""
        def spot():
            return f"{rng.randrange(many + 1) if rng.random() < 0.1 else rng.randrange(max(1, many))}.{rng.choice('abcdexyz')}"

        run = drawn.run(rng, sheets="abc", marks="mn", most=3, flags=("u",)) if rng.random() < 0.6 else drawn.wide_run(rng, 3)
        place, counts = rng.randrange(many + 1), counts_text(tuple((sheet, rng.choice("mn")) for sheet in "abcxyz"[:rng.randint(0, 6)]))
        words = ["see"] * 4 + ["alike", "class", "leans", "unfelt", "promise", "turn", "recount", "replan", "doubt", "undo", *LONE]
        word = rng.choice(words)
        if many == 0 or (many < 4 and rng.random() < 0.12):
            return "tell " + run_text(run)
        rests = {"see": f"{spot()} {spot()}", "alike": f"{spot()} {spot()}", "leans": f"{spot()} {spot()}", "class": spot(),
                 "unfelt": f"{place} {rng.randrange(many + 1)} {rng.choice('abcxyz')}", "promise": f"{place} {rng.randint(0, 3)}",
                 "turn": f"{place} {rng.choice(('-', 'u', 'u v'))} @ {counts}", "recount": f"{place} {counts}", "replan": f"{place} {plan_text(run[0])}",
                 "doubt": str(rng.randrange(4))}
        return word if word in LONE else f"{word} {rests[word]}"

    def test_drawn_stories(self):
        kinds = {}
        for at in range(70):
            rng, board, lines, told = random.Random(260 + at), Board(), [], []
            for _ in range(45):
                line = self.line(rng, len(board))
                lines.append(line)
                told.append(self.expected(board, line))
                key = line.split(" ")[0] + ("" if not told[-1].startswith("refused") else " " + told[-1].split()[1])
                kinds[key] = kinds.get(key, 0) + 1
            self.assertEqual(replies("\n".join(lines)), told)
            self.assertTrue(all(is_request(line) for line in lines))
        for key in ("tell", "recount", "turn", "replan", "see", "doubt", "undo", "alike", "class", "needless", "leans", "unfelt", "promise", "seen", "runs",
                    "recount NoSheet", "turn NoSheet", "replan NoSheet", "recount NoNumber", "see NoSpot", "doubt NoNumber", "leans NoPaper", "leans NoSpot",
                    "unfelt NoNumber", "promise NoNumber", "class NoSpot", "alike NoSpot"):
            self.assertGreater(kinds.get(key, 0), 3, key)


if __name__ == "__main__":
    unittest.main()
