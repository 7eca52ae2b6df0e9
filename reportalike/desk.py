"""A desk: requests, a line each, that are put to a Board, and a reply to each one."""

from reportalike.board import Board
from reportalike.changes import unfelt
from reportalike.errors import BadLine, BadText, NoNumber, NoPaper, NoSheet, NoSpot, NothingDone
from reportalike.forms import is_name
from reportalike.free import alike_to, how_many_classes
from reportalike.kept import least_promise
from reportalike.plans import is_sound
from reportalike.steps import counts_needed, made_at
from reportalike.texts import (
    counts_in, place_in, plan_in, row_text, runs_text, seen_text, spot_in, spot_text, variant_in,
)
from reportalike.why import in_each, needless

SHAPES = {
    "tell": ("plan", "flags", "counts"), "recount": ("place", "counts"), "turn": ("place", "flags", "counts"),
    "replan": ("place", "plan"), "see": ("spot", "spot"), "doubt": ("place",), "undo": (), "runs": (), "seen": (),
    "many": (), "deeds": (), "classes": (), "alike": ("spot", "spot"), "class": ("spot",), "needless": (),
    "leans": ("spot", "spot"), "unfelt": ("place", "place", "sheet"), "promise": ("place", "place"),
}


def request_in(line):
    """The word and the parts of the request with this text; raises BadText if there is none."""
    word, blank, rest = line.partition(" ")
    if word not in SHAPES or (blank == " ") != (len(SHAPES[word]) > 0):
        raise BadText()
    parts = []
    for kind in SHAPES[word]:
        part, rest = next_part(kind, rest, len(parts) + 1 == len(SHAPES[word]))
        parts.append(part_in(kind, part))
    return word, parts


def next_part(kind, text, is_last):
    """The text of the next part, which is of this kind, and what is left behind it; the last one is all of it."""
    if is_last:
        return text, ""
    part, _, rest = text.partition(" @ " if kind in ("plan", "flags") else " ")
    return part, rest


def part_in(kind, text):
    if kind == "plan":
        return sound_plan_in(text)
    if kind == "flags":
        return variant_in(text)
    if kind == "counts":
        return counts_in(text)
    if kind == "spot":
        return spot_in(text)
    return place_in(text) if kind == "place" else sheet_in(text)


def sound_plan_in(text):
    plan = plan_in(text)
    if not is_sound(plan):
        raise BadText()
    return plan


def sheet_in(text):
    if not is_name(text):
        raise BadText()
    return text


def is_request(thing):
    if not isinstance(thing, str):
        return False
    try:
        request_in(thing)
    except BadText:
        return False
    return True


def replies(text):
    lines = text.split("\n") if text else []
    for number, line in enumerate(lines):
        if not is_request(line):
            raise BadLine(number)
    board = Board()
    return [reply(board, line) for line in lines]


def reply(board, line):
    """What the Board replies to this request, refused or not."""
    word, parts = request_in(line)
    try:
        return answer(board, word, parts)
    except NoSheet as untold:
        return "refused NoSheet " + untold.sheet
    except NoNumber as beyond:
        return "refused NoNumber " + str(beyond.number)
    except NoSpot as nowhere:
        return "refused NoSpot " + spot_text(nowhere.spot)
    except NoPaper:
        return "refused NoPaper"
    except NothingDone:
        return "refused NothingDone"


def answer(board, word, parts):
    if word == "tell":
        return str(board.tell(*parts))
    if word == "recount":
        return seen_text(board.recount(*parts))
    if word == "turn":
        return seen_text(board.turn(*parts))
    if word == "replan":
        return seen_text(board.replan(*parts))
    if word == "see":
        return yes_or_no(board.see(*parts))
    if word == "doubt":
        return seen_text((board.doubt(*parts),))
    if word == "undo":
        board.undo()
        return "done"
    return told_of_board(board, word, parts)


def yes_or_no(told):
    return "yes" if told else "no"


def told_of_board(board, word, parts):
    """The reply to a request that changes nothing."""
    runs, seen = board.runs(), board.seen()
    if word == "runs":
        return runs_text(runs) if runs else "-"
    if word == "seen":
        return seen_text(seen)
    if word == "many":
        return str(len(board))
    if word == "deeds":
        return str(board.deeds())
    if word == "classes":
        return str(how_many_classes(runs, seen))
    if word == "alike":
        return yes_or_no(board.alike(*parts))
    if word == "class":
        return " ".join([spot_text(spot) for spot in alike_to(runs, seen, parts[0])])
    if word == "needless":
        return places_text(needless(runs, seen))
    if word == "leans":
        return places_text(in_each(runs, seen, parts[0], parts[1]))
    return told_of_runs(runs, word, parts)


def places_text(places):
    return row_text([str(place) for place in places], " ")


def told_of_runs(runs, word, parts):
    """The reply to a request about some of the RUNS."""
    if word == "unfelt":
        (plan, variant, _), (other, turned, _) = [run_at(runs, place) for place in parts[:2]]
        return yes_or_no(unfelt((plan, variant), (other, turned), parts[2]))
    plan, variant, counts = run_at(runs, parts[0])
    goals, may = made_at(plan, variant), counts_needed(plan, variant)
    return str(least_promise((plan, variant, counts), goals, may, parts[1]))


def run_at(runs, place):
    if place >= len(runs):
        raise NoNumber(place)
    return runs[place]
