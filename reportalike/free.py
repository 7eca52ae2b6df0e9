"""Free runs: which SPOTS hold the same FOR ALL METHODS, and a WORLD in which all others do not."""

from reportalike.errors import NoPaper
from reportalike.few import fewest_blocks
from reportalike.forms import as_set, pairs_among, tupled
from reportalike.groups import classes_at, free_book
from reportalike.runs import expect_spots, spot_table, spots_in_pairs
from reportalike.worlds import is_world, numbers_in


def class_table(runs, seen, some):
    """The number of the CLASS of each SPOT; raises NoSpot for the first in seen, then in some, that is none."""
    _, table = classes_at(runs, tupled(seen), some)
    return table


def classes_of(runs, seen):
    return tuple(class_table(runs, seen, []).items())


def how_many_classes(runs, seen):
    return len(set(list(class_table(runs, seen, []).values())))


def alike(runs, seen, one, other):
    first, second = tupled((one, other))
    table = class_table(runs, seen, [first, second])
    return table[first] == table[second]


def alike_to(runs, seen, one):
    first = tupled(one)
    table = class_table(runs, seen, [first])
    return tuple([spot for spot in table if table[spot] == table[first]])


def alike_pairs(runs, seen):
    table = class_table(runs, seen, [])
    return [(one, other) for one, other in pairs_among(list(table)) if table[one] == table[other]]


def tells_all(runs, seen, others):
    pairs = tupled(others)
    table = class_table(runs, seen, spots_in_pairs(pairs))
    return all([table[one] == table[other] for one, other in pairs])


def free_world(runs, seen):
    links, table = classes_at(runs, tupled(seen), [])
    return free_book(links, table).world()


def apart_paper(runs, seen, one, other):
    first, second = tupled((one, other))
    links, table = classes_at(runs, tupled(seen), [first, second])
    if table[first] == table[second]:
        raise NoPaper()
    return free_book(links, table).world()


def is_apart_paper(runs, seen, one, other, thing):
    first, second, pairs = tupled((one, other, seen))
    expect_spots(spot_table(runs), [*spots_in_pairs(pairs), first, second])
    if not is_world(thing):
        return False
    numbers = numbers_in(thing, runs)
    return numbers[first] != numbers[second] and all([numbers[a] == numbers[b] for a, b in pairs])


def fewest_numbers(runs, seen, one, other):
    _, blocks = blocks_apart(runs, seen, one, other)
    return None if blocks is None else len(set(blocks))


def blocks_apart(runs, seen, one, other):
    """A free book, and of each CLASS a number, as few ones as keep one and other apart; None if both are alike."""
    first, second = tupled((one, other))
    links, table = classes_at(runs, tupled(seen), [first, second])
    book = free_book(links, table)
    return book, fewest_blocks(book.many, list(book.rows.items()), table[first], table[second])


def few_paper(runs, seen, one, other):
    book, blocks = blocks_apart(runs, seen, one, other)
    if blocks is None:
        raise NoPaper()
    contents, tables, _ = book.world()
    held = tuple([(mark, blocks[number]) for mark, number in contents])
    told = [(method, tuple([blocks[number] for number in ins]), blocks[out]) for method, ins, out in tables]
    return held, as_set(told), 0


def alike_among(runs, seen, one, other, many):
    fewest = fewest_numbers(runs, seen, one, other)
    return fewest is None or fewest > many
