"""texts.py: texts that stand for just one thing."""

import random
import re
import unittest

from reportalike import texts
from reportalike.errors import BadText
from reportalike.free import alike, free_world
from reportalike.runs import is_counts, is_run, is_runs, is_seen
from reportalike.steps import is_plan
from reportalike.texts import (
    counts_in, counts_text, plan_in, plan_text, run_in, run_text, runs_in, runs_text, seen_in, seen_text, world_in, world_text,
)
from reportalike.worlds import is_world
from tests import drawn, looks
from tests.things import holds_list, listed

PLAN = (("p", "f", ("a", "b"), "x", (("u", 1), ("v", 0))), ("q", "g", (), "y", ()))
KINDS = ("plan", "counts", "run", "runs", "seen", "world")
NAME, PLACE, NUMBER = "[a-z]{1,8}", "(?:0|[1-9][0-9]*)", "(?:0|-?[1-9][0-9]*)"
STEP = rf"{NAME}: {NAME}\((?:{NAME}(?: {NAME})*)?\) > {NAME}(?: if [+-]{NAME}(?: [+-]{NAME})*)?"
MANY = {
    "plan": (STEP, "; "), "flags": (NAME, " "), "counts": (f"{NAME}={NAME}", " "),
    "seen": (rf"{PLACE}\.{NAME}~{PLACE}\.{NAME}", " "), "held": (f"{NAME}={NUMBER}", " "),
    "rows": (rf"{NAME}\((?:{NUMBER}(?: {NUMBER})*)?\)={NUMBER}", " | "),
}


def rises(row):
    return all(one < other for one, other in zip(row, row[1:]))


def has_form(kind, text):
    """Whether the text is "-" or parts of this kind, with the sign between two."""
    part, sign = MANY[kind]
    return re.fullmatch(rf"-|{part}(?:{re.escape(sign)}{part})*", text) is not None


def parts(kind, text):
    return [] if text == "-" else text.split(MANY[kind][1])


def spot(text):
    place, sheet = text.split(".")
    return int(place), sheet


def key_of(kind, part):
    """By what the parts of this kind rise."""
    if kind == "seen":
        return tuple(spot(one) for one in part.split("~"))
    if kind == "rows":
        return part.split("(")[0], tuple(int(word) for word in part.split("(")[1].split(")")[0].split())
    return re.match("[a-z]+", part).group()


def rising(kind, text):
    """Whether the text has this form, and its parts rise."""
    return has_form(kind, text) and rises([key_of(kind, part) for part in parts(kind, text)])


def is_text(kind, text):
    """The test's own look: whether this is the text of something."""
    if kind == "plan":
        flags = [re.findall("[+-]([a-z]+)", part) for part in parts("plan", text)] if rising("plan", text) else [["b", "a"]]
        return all(rises(row) for row in flags)
    if kind == "seen":
        return rising("seen", text) and all(key_of("seen", part)[0] < key_of("seen", part)[1] for part in parts("seen", text))
    if kind == "world":
        row = text.split("; ")
        return len(row) == 3 and rising("held", row[0]) and rising("rows", row[1]) and re.fullmatch(NUMBER, row[2]) is not None
    if kind == "runs":
        return all(is_text("run", part) for part in text.split(" | "))
    if kind == "counts":
        return rising("counts", text)
    row = text.split(" @ ")
    if len(row) != 3 or not is_text("plan", row[0]) or not rising("flags", row[1]) or not rising("counts", row[2]):
        return False
    plan, told = own_plan(row[0]), [part.split("=")[0] for part in parts("counts", row[2])]
    return looks.sound(plan) and set(looks.needed(plan, parts("flags", row[1]))) <= set(told)


def own_plan(text):
    """The PLAN of a text that is one."""
    steps = []
    for part in parts("plan", text):
        name, method, reads, sheet, flags = re.fullmatch(r"(\w+): (\w+)\((.*)\) > (\w+)(?: if (.*))?", part).groups()
        condition = tuple((flag[1:], 1 if flag[0] == "+" else 0) for flag in (flags or "").split())
        steps.append((name, method, tuple(reads.split()), sheet, condition))
    return tuple(steps)


def plain(value):
    """A WORLD of numbers drawn from few."""
    rng = random.Random(value)
    numbers = (0, 1, 2, 10, -1, -12, 10 ** 40, -10 ** 40)
    contents = tuple((mark, rng.choice(numbers)) for mark in ("k", "m", "n", "zz") if rng.random() < 0.6)
    rows = {(rng.choice("fg"), tuple(rng.choice(numbers) for _ in range(rng.randint(0, 3)))) for _ in range(rng.randint(0, 4))}
    return contents, tuple(sorted((method, ins, rng.choice(numbers)) for method, ins in rows)), rng.choice(numbers)


def things():
    """Pairs of a kind and a thing."""
    found = [("plan", plan) for plan in drawn.draws(240, 60, drawn.plan)]
    runs = drawn.draws(241, 60, lambda rng: drawn.runs(rng, most=3))
    found += [("runs", some) for some in runs] + [("run", some[0]) for some in runs] + [("counts", some[-1][2]) for some in runs]
    rng = random.Random(242)
    found += [("seen", drawn.seen(rng, some, most=4)) for some in runs]
    found += [("world", plain(value)) for value in range(40)] + [("world", free_world(some, ())) for some in runs[:20]]
    return found


THINGS = things()
JUDGES = {"plan": is_plan, "counts": is_counts, "run": is_run, "runs": is_runs, "world": is_world}


def write(kind, thing):
    return getattr(texts, kind + "_text")(thing)


def read(kind, text):
    return getattr(texts, kind + "_in")(text)


def changed(text):
    """Texts like this one but for a sign, or some, or parts."""
    found = ["", " " + text, text + " ", "\n" + text, text + "\n", text + ";", text.upper(), text.replace(" ", "  "), text.replace("; ", ";"),
             text.replace(" @ ", "@"), text.replace(" @ ", " @"), text.replace(" | ", "|"), text.replace(": ", ":"), text.replace(" > ", ">"),
             text.replace(" if ", " "), text.replace("+", "-"), text.replace("-", "+"), text.replace("+", ""), text.replace("=", " = "),
             text.replace("0", "00"), text.replace("1", "01"), text.replace("0", "-0"), text.replace("1", "+1"), text.replace("1", "\u0661"),
             text.replace("0", "\u00b2"), text.replace("1", "1_0"), text.replace("a", "abcdefghi"), text.replace("a", "abcdefgh"), text.replace("a", ""),
             text.replace("a", "\u00e9"), text.replace(" ", "\t"), text.replace(" ", "\u00a0"), text.replace("()", "( )"), text.replace("~", " ~ "),
             text.replace(" ", "\n"), text.replace("-", "- -"), text.replace("-", ""), text.replace("(", "["), text + " @ -", "- @ " + text]
    for sign in ("; ", " ", " | ", " @ ", "=", "~", "."):
        row = text.split(sign)
        found += [sign.join(row[::-1]), sign.join([*row, row[-1]]), sign.join(row[:-1]), sign.join(row[1:]), sign.join([row[0], *row]),
                  sign + text, text + sign, sign.join([*row, "-"])]
    return found


def cut(text):
    """All texts with one sign left out, doubled, or swapped with the next one, or another one in its place."""
    found = []
    for at in range(len(text)):
        found += [text[:at] + text[at + 1:], text[:at] + text[at] + text[at:], text[:at] + text[at:at + 2][::-1] + text[at + 2:]]
        found += [text[:at] + sign + text[at + 1:] for sign in "aA0-+ .;="]
    return found


class Texts(unittest.TestCase):
    def test_written_and_read_back(self):
        for kind, thing in THINGS:
            text = write(kind, thing)
            self.assertIs(is_text(kind, text), True, text)
            self.assertEqual(repr(read(kind, text)), repr(thing))
            self.assertEqual(write(kind, listed(thing)), text)
            self.assertFalse(holds_list(read(kind, text)))

    def test_what_is_read_can_be_handed_in_again(self):
        for kind, thing in THINGS:
            found = read(kind, write(kind, thing))
            if kind in JUDGES:
                self.assertIs(JUDGES[kind](found), True)
        runs = runs_in("p: f(a) > x @ - @ a=m | p: f(a) > x @ u @ a=n")
        seen = seen_in("0.a~1.a")
        self.assertIs(is_seen(runs, seen), True)
        self.assertIs(alike(runs, seen, (0, "x"), (1, "x")), True)

    def test_own_texts(self):
        self.assertEqual(plan_text(PLAN), "p: f(a b) > x if +u -v; q: g() > y")
        self.assertEqual(plan_text(PLAN[1:]), "q: g() > y")
        self.assertEqual(run_text((PLAN, ("u", "w"), (("a", "m"), ("b", "m")))), "p: f(a b) > x if +u -v; q: g() > y @ u w @ a=m b=m")
        self.assertEqual(runs_text((((), (), ()), (PLAN[1:], (), ()))), "- @ - @ - | q: g() > y @ - @ -")
        self.assertEqual(seen_text(()), "-")
        self.assertEqual(seen_text((((10, "a"), (11, "b")),)), "10.a~11.b")
        self.assertEqual(world_text(((), (), 0)), "-; -; 0")
        self.assertEqual(world_text(((("a", 0), ("b", -10)), (("f", (), -1), ("f", (-2, 3), 4)), -5)), "a=0 b=-10; f()=-1 | f(-2 3)=4; -5")
        self.assertEqual(counts_text(()), "-")

    def test_names_of_the_signs(self):
        plan = (("if", "if", ("if", "if"), "if", (("if", 1),)),)
        self.assertEqual(plan_text(plan), "if: if(if if) > if if +if")
        self.assertEqual(plan_in("if: if(if if) > if if +if"), plan)


class Bad(unittest.TestCase):
    def check(self, kind, text):
        """Whether the text is read; it must be so exactly if it is the text of something, and of that alone."""
        if is_text(kind, text):
            self.assertEqual(write(kind, read(kind, text)), text)
            return True
        with self.assertRaises(BadText, msg=(kind, text)) as caught:
            read(kind, text)
        self.assertIs(type(caught.exception), BadText)
        return False

    def test_texts_that_are_changed(self):
        good = bad = 0
        for kind, thing in THINGS:
            text = write(kind, thing)
            for other in changed(text):
                right = self.check(kind, other)
                good, bad = good + (right and other != text), bad + (not right)
        self.assertGreater(min(good, bad), 500)

    def test_texts_with_one_sign_changed(self):
        good = bad = 0
        for kind, thing in THINGS[::4]:
            for other in cut(write(kind, thing)):
                right = self.check(kind, other)
                good, bad = good + right, bad + (not right)
        self.assertGreater(min(good, bad), 1000)

    def test_texts_of_other_kinds(self):
        for at, (kind, thing) in enumerate(THINGS):
            for other in KINDS:
                self.check(other, write(kind, thing))

    def test_nothing_and_the_stroke(self):
        for kind in KINDS:
            self.assertRaises(BadText, read, kind, "")
            for text in (" ", "--", "- ", " -", "\n", "-\n", "- -"):
                self.assertRaises(BadText, read, kind, text)
        self.assertEqual((plan_in("-"), counts_in("-"), seen_in("-")), ((), (), ()))
        for kind in ("run", "runs", "world"):
            self.assertRaises(BadText, read, kind, "-")
        self.assertEqual(world_in("-; -; -1"), ((), (), -1))

    def test_numbers(self):
        for number in ("0", "7", "-7", "10", "9" * 400, "-" + "9" * 400, "1" + "0" * 399):
            self.assertEqual(world_in("a=" + number + "; f(" + number + ")=" + number + "; " + number),
                             ((("a", int(number)),), (("f", (int(number),), int(number)),), int(number)))
        for number in ("", "00", "07", "-0", "-07", "+1", "1.0", "1e3", "0x1", "1_0", " 1", "1 ", "\u0663", "\u00b2", "\uff11", "--1", "-", "a"):
            for text in ("a={}; -; 0", "-; f({})=0; 0", "-; f(1 {})=0; 0", "-; f()={}; 0", "-; -; {}"):
                if (number, text) != ("", "-; f({})=0; 0"):
                    self.assertRaises(BadText, world_in, text.format(number))
            self.assertRaises(BadText, seen_in, number + ".a~9.b")
            self.assertRaises(BadText, seen_in, "0.a~" + number + ".b")
        self.assertRaises(BadText, seen_in, "-1.a~0.b")
        self.assertEqual(seen_in("0.a~" + "9" * 400 + ".a"), (((0, "a"), (int("9" * 400), "a")),))

    def test_rows_out_of_order_or_twice(self):
        for kind, texts_of_it in (
                ("plan", ("q: g() > y; p: g() > z", "q: g() > y; q: g() > z", "q: g() > y if +v +u", "q: g() > y if +u -u", "q: g() > y if +u +u")),
                ("counts", ("b=m a=m", "a=m a=m", "a=m a=n")), ("seen", ("0.b~0.a", "0.a~0.a", "0.b~0.c 0.a~0.c", "0.a~0.b 0.a~0.b", "1.a~0.b")),
                ("world", ("b=1 a=1; -; 0", "a=1 a=2; -; 0", "-; f(2)=1 | f(1)=1; 0", "-; f(1)=1 | f(1)=2; 0", "-; g()=1 | f()=1; 0",
                           "-; f(10)=0 | f(9)=0; 0", "-; f(1 2)=0 | f(1)=0; 0")),
                ("run", ("- @ b a @ -", "- @ a a @ -"))):
            for text in texts_of_it:
                self.assertRaises(BadText, read, kind, text)
        # Numbers rise as numbers, not as texts.
        self.assertEqual(len(world_in("-; f(-1)=0 | f(9)=0 | f(10)=0; 0")[1]), 3)
        self.assertEqual(seen_in("2.a~10.a 10.a~11.a"), (((2, "a"), (10, "a")), ((10, "a"), (11, "a"))))

    def test_plans_that_are_not_sound(self):
        for text in ("p: f() > x; q: g() > x", "p: f(x) > x", "p: f(y) > x; q: f(x) > y", "p: f() > x if +u; q: g() > x if +v"):
            self.assertEqual(plan_text(plan_in(text)), text)
            self.assertRaises(BadText, run_in, text + " @ - @ x=m y=m")
            self.assertRaises(BadText, runs_in, "- @ - @ - | " + text + " @ - @ x=m y=m")
        self.assertEqual(len(run_in("p: f() > x if +u; q: g() > x if -u @ - @ -")[0]), 2)

    def test_counts_that_do_not_tell_all(self):
        self.assertRaises(BadText, run_in, "p: f(a b) > x @ - @ a=m")
        self.assertRaises(BadText, run_in, "p: f(a) > x if +u @ u @ -")
        self.assertEqual(run_in("p: f(a) > x if +u @ - @ -"), ((("p", "f", ("a",), "x", (("u", 1),)),), (), ()))
        self.assertEqual(run_in("p: f(a) > x @ - @ a=m b=m x=n")[2], (("a", "m"), ("b", "m"), ("x", "n")))

    def test_names(self):
        for name in ("", "abcdefghi", "A", "a1", "a-b", "\u00e9", "a b", "_"):
            for text in ("{}: f(a) > x", "p: {}(a) > x", "p: f({} b) > x", "p: f(a) > {}", "p: f(a) > x if +{}"):
                if (name, text) != ("a b", "p: f({} b) > x"):
                    self.assertRaises(BadText, plan_in, text.format(name))
            self.assertRaises(BadText, counts_in, name + "=m")
            self.assertRaises(BadText, counts_in, "a=" + name)
            self.assertRaises(BadText, seen_in, "0." + name + "~1.z")
            self.assertRaises(BadText, run_in, "- @ {} @ -".format(name) if name != "a b" else "- @ b a @ -")
            self.assertRaises(BadText, world_in, name + "=1; -; 0")
            self.assertRaises(BadText, world_in, "-; " + name + "()=1; 0")
        self.assertEqual(counts_in("abcdefgh=zzzzzzzz"), (("abcdefgh", "zzzzzzzz"),))

    def test_great_texts(self):
        names = [one + other for one in "abcdefgh" for other in "abcdefgh"]
        plan = tuple(("n" + name, "m", names[:at][-5:], "s" + name, ()) for at, name in enumerate(sorted(names)))
        plan = tuple((name, method, tuple(reads), sheet, condition) for name, method, reads, sheet, condition in plan)
        self.assertEqual(plan_in(plan_text(plan)), plan)
        run = (plan, tuple(sorted(names)), tuple((name, "m") for name in sorted(names)))
        self.assertEqual(run_in(run_text(run)), run)
        self.assertEqual(runs_in(runs_text((run,) * 9)), (run,) * 9)
        seen = tuple(((place, "a"), (place + 1, "a")) for place in range(300))
        self.assertEqual(seen_in(seen_text(seen)), seen)


if __name__ == "__main__":
    unittest.main()
