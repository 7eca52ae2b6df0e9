"""Why SPOTS are alike: JOININGS that show it, and the SEEN pairs that it hangs on."""

from reportalike.errors import NoNumber, NoPaper
from reportalike.forms import is_number, is_part_of, is_tuple_of, pairs_among, subsets_by_size, tupled
from reportalike.groups import Groups, joinings_of, links_of, numbered
from reportalike.runs import expect_spots, is_spot_form, spots_in_pairs


class Case:
    """The RUNS, SEEN pairs and SPOTS that are asked about; raises NoSpot for the first SPOT that is none."""

    def __init__(self, runs, seen, some):
        self.seen, self.some = tupled((seen, some))
        self.links = links_of(runs)
        expect_spots(self.links.table, [*spots_in_pairs(self.seen), *self.some])

    def table(self, places):
        """The CLASSES by the SEEN pairs with these places alone."""
        return numbered(self.links, [self.seen[place] for place in places])

    def alike_by(self, places):
        one, other = self.some
        table = self.table(places)
        return table[one] == table[other]

    def places(self):
        return tuple(range(len(self.seen)))

    def but(self, place):
        """All places but this one."""
        return tuple([at for at in self.places() if at != place])


def why(runs, seen, one, other):
    case = Case(runs, seen, (one, other))
    joinings, groups = joinings_of(case.links, case.seen)
    if groups.leads[case.some[0]] != groups.leads[case.some[1]]:
        raise NoPaper()
    # From the last one on: what one of them needs stands ahead of it, so none that stays gets needless later.
    kept = tuple(joinings)
    for joining in joinings[::-1]:
        fewer = tuple([another for another in kept if another != joining])
        if shows(case, fewer):
            kept = fewer
    return kept


def is_why(runs, seen, one, other, thing):
    case = Case(runs, seen, (one, other))
    if not isinstance(thing, tuple) or not all([is_joining(case, joining) for joining in thing]):
        return False
    return shows(case, thing)


def is_joining(case, thing):
    if is_tuple_of(thing, 2) and thing[0] == "seen":
        return is_number(thing[1]) and 0 <= thing[1] < len(case.seen)
    if not is_tuple_of(thing, 3) or not all([is_spot_form(spot) for spot in thing[1:]]):
        return False
    word, first, second = thing
    marks, made = case.links.marks, case.links.made
    if word == "mark":
        return first in marks and second in marks and marks[first] == marks[second]
    if word != "made" or first not in made or second not in made:
        return False
    return made[first][0] == made[second][0] and len(made[first][1]) == len(made[second][1])


def shows(case, joinings):
    """Whether these JOININGS show that both SPOTS of the case are alike."""
    groups = Groups(case.links.row)
    for joining in joinings:
        if joining[0] == "made":
            reads = [case.links.made[spot][1] for spot in joining[1:]]
            if any([groups.leads[first] != groups.leads[second] for first, second in zip(reads[0], reads[1])]):
                return False
        first, second = case.seen[joining[1]] if joining[0] == "seen" else joining[1:]
        groups.put(first, second)
    one, other = case.some
    return groups.leads[one] == groups.leads[other]


def needless(runs, seen):
    case = Case(runs, seen, ())
    found = []
    for place, (one, other) in enumerate(case.seen):
        table = case.table(case.but(place))
        if table[one] == table[other]:
            found.append(place)
    return tuple(found)


def in_each(runs, seen, one, other):
    case = Case(runs, seen, (one, other))
    if not case.alike_by(case.places()):
        raise NoPaper()
    return tuple([place for place in case.places() if not case.alike_by(case.but(place))])


def only_by(runs, seen, place):
    case = Case(runs, seen, ())
    if not 0 <= place < len(case.seen):
        raise NoNumber(place)
    return alike_by_one_alone(case.table(case.places()), case.table(case.but(place)))


def alike_by_one_alone(one, other):
    """The pairs of SPOTS that the one table of CLASSES puts together, and the other one does not."""
    pairs = pairs_among(list(one))
    return [(a, b) for a, b in pairs if one[a] == one[b] and other[a] != other[b]]


def more_by(runs, seen, one, other):
    case = Case(runs, seen, (one, other))
    more = numbered(case.links, [*case.seen, case.some])
    return alike_by_one_alone(more, case.table(case.places()))


def least_lots(runs, seen, one, other):
    case = Case(runs, seen, (one, other))
    found = []
    for lot in subsets_by_size(case.places()):
        if not any([is_part_of(less, lot) for less in found]) and case.alike_by(lot):
            found.append(lot)
    return sorted(found)


def fewest_lot(runs, seen):
    case = Case(runs, seen, ())
    for lot in subsets_by_size(case.places()):
        table = case.table(lot)
        if all([table[one] == table[other] for one, other in case.seen]):
            return lot
    return case.places()
