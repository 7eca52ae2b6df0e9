"""Branches that may lie: what SPOTS surely hold all the same, and who surely lies."""

from reportalike.forms import as_set, is_part_of, is_tuple_of, subsets_by_size, tupled
from reportalike.groups import free_book, links_of, numbered
from reportalike.runs import expect_spots, spots_in_pairs
from reportalike.worlds import agrees, is_world, numbers_in


class Sayings:
    """RUNS, what was seen of them, and REPORTS; raises NoSpot for the first in these, then in some, that is none."""

    def __init__(self, runs, seen, reports, some):
        self.seen, self.reports = tupled((seen, reports))
        self.links = links_of(runs)
        said = [spot for _, spot, _ in self.reports]
        expect_spots(self.links.table, [*spots_in_pairs(self.seen), *said, *some])
        self.branches = as_set([branch for branch, _, _ in self.reports])

    def outside(self, lot):
        """What the BRANCHES say that are not in this LOT: pairs of a SPOT and a number."""
        return [(spot, number) for branch, spot, number in self.reports if branch not in lot]

    def fitted(self, lot):
        """The CLASSES if all these are right, and the number that is said of a CLASS; None if the LOT can not be."""
        firsts, pairs, said = {}, [], {}
        for spot, number in self.outside(lot):
            pairs.append((firsts.setdefault(number, spot), spot))
        table = numbered(self.links, [*self.seen, *pairs])
        for spot, number in self.outside(lot):
            if said.setdefault(table[spot], number) != number:
                return None
        return table, said

    def can_be(self, lot):
        return self.fitted(lot) is not None

    def number_by(self, lot, spot):
        """The number that this SPOT holds in all WORLDS that fit this LOT, which can be; None if there is none."""
        table, said = self.fitted(lot)
        return said.get(table[spot])


def can_be(runs, seen, reports, lot):
    return Sayings(runs, seen, reports, ()).can_be(lot)


def lots_that_can_be(runs, seen, reports, lots):
    sayings = Sayings(runs, seen, reports, ())
    return as_set([lot for lot in tupled(lots) if sayings.can_be(lot)])


def least_liars(runs, seen, reports):
    sayings, found = Sayings(runs, seen, reports, ()), []
    for lot in subsets_by_size(sayings.branches):
        if not any([is_part_of(less, lot) for less in found]) and sayings.can_be(lot):
            found.append(lot)
    return sorted(found)


def surely_holds(runs, seen, reports, lots, spot):
    asked = tupled(spot)
    sayings = Sayings(runs, seen, reports, (asked,))
    numbers = [sayings.number_by(lot, asked) for lot in lots if sayings.can_be(lot)]
    if not numbers or any([number != numbers[0] for number in numbers]):
        return None
    return numbers[0]


def surely_lie(runs, seen, reports, lots):
    sayings = Sayings(runs, seen, reports, ())
    fitting = [lot for lot in lots if sayings.can_be(lot)]
    return tuple([branch for branch in sayings.branches if fitting and lies_by_all(sayings, fitting, branch)])


def lies_by_all(sayings, lots, branch):
    """Whether none of these LOTS can be without this BRANCH."""
    return not any([sayings.can_be([one for one in lot if one != branch]) for lot in lots])


def other_world(runs, seen, reports, lots, spot, number):
    asked = tupled(spot)
    sayings = Sayings(runs, seen, reports, (asked,))
    for lot in tupled(lots):
        if sayings.can_be(lot) and sayings.number_by(lot, asked) != number:
            return lot, fitting_world(sayings, lot, number)
    return None


def fitting_world(sayings, lot, number):
    """A WORLD that fits this LOT; CLASSES of which nothing is said hold unlike numbers, none of them this one."""
    table, said = sayings.fitted(lot)
    taken, held, least = [number, *list(said.values())], {**said}, 0
    for own in as_set([one for one in table.values() if one not in said]):
        while least in taken:
            least += 1
        held[own] = least
        least += 1
    return free_book(sayings.links, {spot: held[own] for spot, own in table.items()}).world()


def is_other_world(runs, seen, reports, lots, spot, number, thing):
    asked = tupled(spot)
    sayings = Sayings(runs, seen, reports, (asked,))
    if not is_tuple_of(thing, 2) or thing[0] not in tupled(lots):
        return False
    lot, world = thing
    if not is_world(world) or not agrees(world, runs, sayings.seen):
        return False
    numbers = numbers_in(world, runs)
    return all([numbers[one] == told for one, told in sayings.outside(lot)]) and numbers[asked] != number
