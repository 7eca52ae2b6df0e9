"""The plainest forms: numbers, NAMES, sets, and arguments with lists in the place of tuples."""

LETTERS = "abcdefghijklmnopqrstuvwxyz"


def tupled(value):
    """The value with a tuple in the place of each list, at any depth."""
    if isinstance(value, (list, tuple)):
        return tuple([tupled(part) if isinstance(part, (list, tuple)) else part for part in value])
    return value


def is_number(thing):
    return isinstance(thing, int) and not isinstance(thing, bool)


def is_name(thing):
    return isinstance(thing, str) and len(thing) <= 8 and thing.isascii() and thing.isalpha() and thing.islower()


def is_tuple_of(thing, many):
    """Whether thing is a tuple of just so many."""
    return isinstance(thing, tuple) and len(thing) == many


def is_ascending(row):
    """Whether each one is below the next one; all of them can be compared."""
    return all([first < second for first, second in zip(row, row[1:])])


def are_names(thing):
    """Whether thing is a tuple of NAMES, in whatever order."""
    return isinstance(thing, tuple) and all([is_name(part) for part in thing])


def is_name_set(thing):
    return are_names(thing) and is_ascending(thing)


def as_set(values):
    """The ascending tuple of these values, each once."""
    return tuple(sorted(set(values)))


def pairs_among(row):
    """All pairs of two places of a row, the earlier one first."""
    return [(first, second) for at, first in enumerate(row) for second in row[at + 1:]]


def subsets(row):
    """The ascending list of the tuples of some of an ascending row, in its order."""
    found = [()]
    for part in row:
        found = found + [ahead + (part,) for ahead in found]
    return sorted(found)


def subsets_by_size(row):
    """The same tuples, those with fewer parts first, of as many the lesser ones first."""
    sized = sorted([(len(some), some) for some in subsets(row)])
    return [some for _, some in sized]


def is_part_of(some, row):
    """Whether all of some stand in the row."""
    return all([part in row for part in some])


def new_names(many, taken):
    """The first so many NAMES that are not among those taken, the shorter ones and then the lesser ones first."""
    found, heads = [], [""]
    while len(found) < many:
        heads = [head + letter for head in heads for letter in LETTERS]
        found.extend([name for name in heads if name not in taken])
    return found[:many]


def orders_of(row):
    """The tuples of all parts of a row, each once, in all orders."""
    found = [()]
    for part in row:
        found = [(*order[:at], part, *order[at:]) for order in found for at in range(len(order) + 1)]
    return found


def choices(lots):
    """All tuples of one part of each lot, in the order of the lots."""
    found = [()]
    for lot in lots:
        found = [(*ahead, part) for ahead in found for part in lot]
    return found
