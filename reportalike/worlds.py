"""WORLDS: what METHODS and MARKS may be, and what the SHEETS of RUNS hold then."""

from reportalike.books import Given, played, reading_row
from reportalike.errors import NoNumber, NoSpot
from reportalike.forms import as_set, is_ascending, is_name, is_number, is_tuple_of, tupled
from reportalike.runs import expect_spots, spot_table, spots_in_pairs
from reportalike.steps import working


def is_world(thing):
    if not is_tuple_of(thing, 3):
        return False
    contents, tables, rest = thing
    return is_contents(contents) and is_tables(tables) and is_number(rest)


def is_contents(thing):
    if not isinstance(thing, tuple) or not all([is_tuple_of(pair, 2) for pair in thing]):
        return False
    if not all([is_name(mark) and is_number(number) for mark, number in thing]):
        return False
    return is_ascending([mark for mark, _ in thing])


def is_tables(thing):
    if not isinstance(thing, tuple) or not all([is_row(row) for row in thing]):
        return False
    return is_ascending([(method, ins) for method, ins, _ in thing])


def is_row(thing):
    if not is_tuple_of(thing, 3):
        return False
    method, ins, out = thing
    if not is_name(method) or not isinstance(ins, tuple) or not is_number(out):
        return False
    return all([is_number(number) for number in ins])


def told_by(world, method, ins):
    return Given(world).told(method, tuple(ins))


def held_by(world, mark):
    return Given(world).held(mark)


def laid_out(runs):
    """Of each RUN the pair of its STEPS that run, in a row in which they can be taken, and its COUNTS."""
    return [(reading_row(working(plan, variant)), counts) for plan, variant, counts in runs]


def numbers_at(book, laid):
    """What each SPOT holds by this book."""
    ends = [played(steps, counts, book) for steps, counts in laid]
    return {(place, sheet): held[sheet] for place, held in enumerate(ends) for sheet in sorted(held)}


def numbers_in(world, runs):
    """What each SPOT of the RUNS holds in this WORLD."""
    return numbers_at(Given(world), laid_out(runs))


def held_in(world, run):
    numbers = numbers_in(world, (run,))
    return tuple([(sheet, numbers[(place, sheet)]) for place, sheet in numbers])


def held_at(world, runs, spot):
    at = tupled(spot)
    numbers = numbers_in(world, runs)
    if at not in numbers:
        raise NoSpot(at)
    return numbers[at]


def agrees(world, runs, seen):
    return first_broken(world, runs, seen) is None


def first_broken(world, runs, seen):
    pairs, numbers = tupled(seen), numbers_in(world, runs)
    expect_spots(numbers, spots_in_pairs(pairs))
    for one, other in pairs:
        if numbers[one] != numbers[other]:
            return one, other
    return None


def same_spots(world, runs):
    numbers = numbers_in(world, runs)
    lots = {}
    for spot in numbers:
        lots.setdefault(numbers[spot], []).append(spot)
    return tuple(sorted([tuple(lots[number]) for number in lots]))


def asked_of(world, runs):
    book, asked = Given(world), []
    for steps, counts in laid_out(runs):
        held = played(steps, counts, book)
        asked.extend([(step[1], tuple([held[read] for read in step[2]])) for step in steps])
    return as_set(asked)


def marks_in(runs):
    """The set of the MARKS of the RUNS."""
    return as_set([mark for run in runs for _, mark in run[2]])


def cut_world(world, runs):
    book = Given(world)
    contents = tuple([(mark, book.held(mark)) for mark in marks_in(runs)])
    tables = tuple([(method, ins, book.told(method, ins)) for method, ins in asked_of(world, runs)])
    return contents, tables, book.rest


def many_tuples(many, length):
    """All tuples of so many numbers from 0 to many - 1."""
    found = [()]
    for _ in range(length):
        found = [(*ahead, number) for ahead in found for number in range(many)]
    return found


def rows_in(runs, many):
    """The set of the pairs (method, ins) of the rows of their plain WORLDS."""
    kinds = as_set([(step[1], len(step[2])) for plan, variant, _ in runs for step in working(plan, variant)])
    return as_set([(method, ins) for method, length in kinds for ins in many_tuples(many, length)])


def power(base, times):
    result = 1
    for _ in range(times):
        result *= base
    return result


def how_many_worlds(runs, many):
    return power(many, len(marks_in(runs)) + len(rows_in(runs, many)))


def nth_world(runs, many, number):
    if not 0 <= number < how_many_worlds(runs, many):
        raise NoNumber(number)
    return plain_world(marks_in(runs), rows_in(runs, many), many, number)


def plain_world(marks, rows, many, number):
    """The plain WORLD with this number: its digits are what the marks hold, then the outs."""
    digits, left = [], number
    for _ in range(len(marks) + len(rows)):
        left, digit = divmod(left, many)
        digits.append(digit)
    row = digits[::-1]
    contents = tuple(zip(marks, row))
    tables = tuple([(method, ins, out) for (method, ins), out in zip(rows, row[len(marks):])])
    return contents, tables, 0


def same_in_all(runs, seen, one, other, many):
    first, second, pairs = tupled((one, other, seen))
    expect_spots(spot_table(runs), [first, second, *spots_in_pairs(pairs)])
    marks, rows, laid = marks_in(runs), rows_in(runs, many), laid_out(runs)
    for number in range(how_many_worlds(runs, many)):
        numbers = numbers_at(Given(plain_world(marks, rows, many, number)), laid)
        if numbers[first] != numbers[second] and all([numbers[a] == numbers[b] for a, b in pairs]):
            return False
    return True
