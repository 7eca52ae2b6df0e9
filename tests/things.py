"""Things that a judge may be handed in, and values with lists in the place of tuples."""

BAD_NAMES = ("", "Abc", "A", "abcdefghi", "a b", "a1", "a-b", "\u00e9", "_a", 0, 1, True, None, ("a",), ["a"])
BAD_NUMBERS = (True, False, None, "0", "a", (0,), [0], ())
BAD_TUPLES = (None, True, 3, "ab", "")


def nested(depth, end):
    """A value this deep, lists and tuples by turns."""
    value = end
    for level in range(depth):
        value = [value] if level % 2 else (value,)
    return value


PLAIN = (
    None, True, False, 0, 1, -1, 7, 10 ** 50, "", "a", "ab", "seen", "A", (), [], ((),), [()], ([],), ((), ()),
    (None,), (True,), (0,), (1,), ("a",), ("b", "a"), ("a", "a"), (("a", "a"),), (("a", True),), (("a", 2),),
    ("a", "b", "c"), ((0, "a"),), (0, "a"), (True, "a"), (-1, "a"), [0, "a"], ((), (), ()), ((), (), 0), ((), (), True),
    ((), (), None), ((), [], 0), ("a", "m", (), "b", ()), (("a", "m", (), "b", ()),), (1, 2, 3, 4), (1, 2, 3, 4, 5),
    ("twice", (), ()), ("ring", (), ()), ("ring", ("a",), ()), ("seen", 0), (("seen", 0),), ("mark", 1, 2),
    nested(12, "a"), nested(12, 0), nested(11, ()), nested(12, None), (nested(10, "a"), nested(9, 1), nested(3, ())),
)


def wrong_for(part):
    """What is never right in the place of this part."""
    if isinstance(part, tuple):
        return [list(part), *BAD_TUPLES]
    if isinstance(part, str):
        return list(BAD_NAMES)
    return list(BAD_NUMBERS)


def spoiled(thing):
    """Things like this one, but for one part of it at some depth that is of a wrong form."""
    found = wrong_for(thing)
    if isinstance(thing, tuple):
        for at, part in enumerate(thing):
            found = found + [thing[:at] + (wrong,) + thing[at + 1:] for wrong in spoiled(part)]
    return found


def listed(value):
    """The value with a list in the place of each tuple."""
    if isinstance(value, (list, tuple)):
        return [listed(part) for part in value]
    return value


def holds_list(value):
    """Whether there is a list somewhere in a tuple, or the value is one."""
    if isinstance(value, list):
        return True
    return isinstance(value, tuple) and any(holds_list(part) for part in value)
