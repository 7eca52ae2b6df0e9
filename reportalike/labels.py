"""Labels by which what was made is found again, and which of them are right FOR ALL METHODS."""

from reportalike.books import Given
from reportalike.errors import NoPaper, NoSpot
from reportalike.forms import (
    as_set, is_ascending, is_name, is_part_of, is_tuple_of, new_names, pairs_among, subsets_by_size, tupled,
)
from reportalike.free import free_world
from reportalike.groups import links_of, makers_at, numbered
from reportalike.runs import is_run, is_spot_form, pair_of
from reportalike.steps import counts_needed, made_at, variants_of
from reportalike.worlds import agrees, is_world, laid_out, numbers_in

SURE = (("method", ""), ("read", "0"), ("read", "1"), ("read", "2"))


def is_kind(thing):
    return isinstance(thing, tuple) and all([is_part(part) for part in thing]) and is_ascending(thing)


def is_part(thing):
    """Whether thing is one of the parts that a KIND can have."""
    if not is_tuple_of(thing, 2):
        return False
    word, told = thing
    if word in ("flag", "counts"):
        return is_name(told)
    return thing in SURE or thing in (("name", ""), ("sheet", ""))


class Labels:
    """The labels of the made SPOTS of RUNS by one KIND."""

    def __init__(self, runs, kind):
        self.kind = tupled(kind)
        self.links = links_of(runs)
        self.steps = makers_at(runs)
        self.variants = [variant for _, variant, _ in runs]
        self.made = [spot for spot in self.links.row if spot in self.steps]
        self.known = {}

    def expect(self, some):
        """Raises NoSpot for the first of some that is no made SPOT."""
        for spot in some:
            if spot not in self.steps:
                raise NoSpot(spot)

    def label(self, spot):
        if spot not in self.known:
            self.known[spot] = tuple([self.part(spot, word, told) for word, told in self.kind])
        return self.known[spot]

    def part(self, spot, word, told):
        place, sheet = spot
        name, method, reads, _, _ = self.steps[spot]
        if word == "read":
            return (place, reads[int(told)]) if int(told) < len(reads) else None
        if word == "counts":
            return (place, told) if (place, told) in self.links.marks else None
        if word == "flag":
            return told in self.variants[place]
        if word == "method":
            return method
        return name if word == "name" else sheet

    def ties(self, one, other):
        """The tied pairs of two made SPOTS; None if they can not share."""
        pairs = []
        for first, second in zip(self.label(one), self.label(other)):
            if first != second:
                if not isinstance(first, tuple) or not isinstance(second, tuple):
                    return None
                pairs.append(pair_of(first, second))
        return as_set(pairs)

    def is_right(self, seen, one, other):
        """Whether both hold the same in ALL WORLDS that agree in which their labels are equal."""
        pairs = self.ties(one, other)
        if pairs is None:
            return True
        table = numbered(self.links, [*seen, *pairs])
        return table[one] == table[other]


def labels_at(runs, kind, some):
    """The Labels; raises NoSpot for the first of some that is no made SPOT."""
    labels = Labels(runs, kind)
    labels.expect(some)
    return labels


def label_of(runs, spot, kind):
    at = tupled(spot)
    return labels_at(runs, kind, [at]).label(at)


def can_share(runs, kind, one, other):
    first, second = tupled((one, other))
    return labels_at(runs, kind, [first, second]).ties(first, second) is not None


def tied(runs, kind, one, other):
    return ties_of(Labels(runs, kind), tupled(one), tupled(other))


def ties_of(labels, one, other):
    labels.expect([one, other])
    pairs = labels.ties(one, other)
    if pairs is None:
        raise NoPaper()
    return pairs


def is_right_hit(runs, seen, kind, one, other):
    first, second = tupled((one, other))
    return labels_at(runs, kind, [first, second]).is_right(tupled(seen), first, second)


def wrong_hits(runs, seen, kind):
    labels, pairs = Labels(runs, kind), tupled(seen)
    return [(one, other) for one, other in pairs_among(labels.made) if not labels.is_right(pairs, one, other)]


def hit_paper(runs, seen, kind, one, other):
    first, second, pairs = tupled((one, other, seen))
    labels = labels_at(runs, kind, [first, second])
    if labels.is_right(pairs, first, second):
        raise NoPaper()
    return free_world(runs, as_set([*pairs, *labels.ties(first, second)]))


def is_hit_paper(runs, seen, kind, one, other, thing):
    first, second = tupled((one, other))
    pairs = labels_at(runs, kind, [first, second]).ties(first, second)
    if pairs is None or not is_world(thing) or not agrees(thing, runs, seen):
        return False
    numbers = numbers_in(thing, runs)
    return numbers[first] != numbers[second] and all([numbers[a] == numbers[b] for a, b in pairs])


def with_book(runs, kind, world):
    labels, book = Labels(runs, kind), Given(world)
    ends, found, hits = [], {}, []
    for place, (steps, counts) in enumerate(laid_out(runs)):
        held = {sheet: book.held(mark) for sheet, mark in counts}
        for _, method, reads, sheet, _ in steps:
            label = told_label(labels.label((place, sheet)), held)
            if label in found:
                hits.append((place, sheet))
            else:
                found[label] = book.told(method, tuple([held[read] for read in reads]))
            held[sheet] = found[label]
        ends.append(tuple(sorted(held.items())))
    return tuple(ends), as_set(hits)


def told_label(label, held):
    """The label with what its SPOTS hold in their places."""
    return tuple([(held[part[1]],) if isinstance(part, tuple) else part for part in label])


def wrong_case(plan, kind):
    """Two RUNS of the PLAN, and a SPOT of each that can share and need not hold the same; None if there are none.

    Two of unlike RUNS are enough: what goes wrong within a RUN goes wrong between two such RUNS.
    """
    row = variants_of(plan)
    for at, first in enumerate(row):
        for second in row[at:]:
            runs = runs_apart(tupled(plan), tupled(kind), (first, second))
            labels = Labels(runs, kind)
            for one in [spot for spot in labels.made if spot[0] == 0]:
                for other in [spot for spot in labels.made if spot[0] == 1]:
                    if not labels.is_right((), one, other):
                        return runs, one, other
    return None


def runs_apart(plan, kind, variants):
    """RUNS of the PLAN at two VARIANTS, all MARKS unlike, whose COUNTS tell what lets most labels be shared."""
    needed = [counts_needed(plan, variant) for variant in variants]
    asked = [told for word, told in kind if word == "counts"]
    sheets = []
    for at, variant in enumerate(variants):
        made = made_at(plan, variant)
        more = [sheet for sheet in asked if sheet in needed[1 - at] and sheet not in made]
        sheets.append(as_set([*needed[at], *more]))
    marks = new_names(len(sheets[0]) + len(sheets[1]), ())
    counts = (tuple(zip(sheets[0], marks)), tuple(zip(sheets[1], marks[len(sheets[0]):])))
    return (plan, variants[0], counts[0]), (plan, variants[1], counts[1])


def is_right_kind(plan, kind):
    return wrong_case(plan, kind) is None


def kind_paper(plan, kind):
    case = wrong_case(plan, kind)
    if case is None:
        raise NoPaper()
    runs, one, other = case
    return runs, hit_paper(runs, (), kind, one, other), one, other


def is_kind_paper(plan, kind, thing):
    if not is_tuple_of(thing, 4):
        return False
    runs, world, one, other = thing
    if not is_tuple_of(runs, 1) and not is_tuple_of(runs, 2):
        return False
    if not all([is_run(run) and run[0] == tupled(plan) for run in runs]):
        return False
    if not is_spot_form(one) or not is_spot_form(other):
        return False
    made = Labels(runs, kind).steps
    return one in made and other in made and is_hit_paper(runs, (), kind, one, other, world)


def least_kinds(plan, parts):
    found = []
    for kind in subsets_by_size(tupled(parts)):
        # What is right stays right with more parts, so those with more are not among the least.
        if not any([is_part_of(less, kind) for less in found]) and is_right_kind(plan, kind):
            found.append(kind)
    return sorted(found)


def is_right_always(kind):
    return is_part_of(SURE, tupled(kind))


def sure_hits(runs, seen, kind):
    return [pair for pair, is_sure, _ in told_pairs(runs, seen, kind) if is_sure]


def misses(runs, seen, kind):
    return [pair for pair, is_sure, are_alike in told_pairs(runs, seen, kind) if are_alike and not is_sure]


def told_pairs(runs, seen, kind):
    """Of each pair of made SPOTS whether it is a sure hit, and whether both are alike."""
    labels = Labels(runs, kind)
    table = numbered(labels.links, tupled(seen))
    found = []
    for one, other in pairs_among(labels.made):
        pairs = labels.ties(one, other)
        is_sure = pairs is not None and all([table[first] == table[second] for first, second in pairs])
        found.append(((one, other), is_sure, table[one] == table[other]))
    return found


def seen_by_hits(runs, seen, kind, pairs):
    labels, found = Labels(runs, kind), list(tupled(seen))
    for one, other in tupled(pairs):
        found.extend(ties_of(labels, one, other))
    return as_set(found)
