"""CLASSES put into as few blocks as can be, such that METHODS still tell the same of the same."""


def fewest_blocks(many, rows, one, other):
    """A tuple of the block of each of so many CLASSES, one and other apart; None if these are one CLASS.

    The rows are pairs ((method, ins), out) of CLASSES; blocks are numbered as they come.
    """
    if one == other:
        return None
    limit = 2
    blocks = blocks_within(many, rows, one, other, limit)
    while blocks is None:
        limit += 1
        blocks = blocks_within(many, rows, one, other, limit)
    return blocks


def blocks_within(many, rows, one, other, limit):
    """The same with at most so many blocks; None if that can't be."""
    waiting = [()]
    while waiting:
        blocks = waiting.pop()
        if keeps_apart(blocks, one, other) and keeps_rows(blocks, rows):
            if len(blocks) == many:
                return blocks
            # Which number a new block has is nothing: only the next one is tried.
            for number in range(min(len(set(blocks)) + 1, limit)):
                waiting.append((*blocks, number))
    return None


def keeps_apart(blocks, one, other):
    return len(blocks) <= max(one, other) or blocks[one] != blocks[other]


def keeps_rows(blocks, rows):
    """Whether no METHOD tells two blocks of the same blocks, as far as CLASSES have blocks."""
    told = {}
    for (method, ins), out in rows:
        if max((*ins, out)) < len(blocks):
            sign = (method, tuple([blocks[number] for number in ins]))
            if told.setdefault(sign, blocks[out]) != blocks[out]:
                return False
    return True
