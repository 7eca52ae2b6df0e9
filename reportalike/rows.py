"""Names that stand behind others: rings among them, rows that keep to it, and who is ahead of whom.

What stands directly ahead is told by a dict from each name to the list of those names.
"""


def only_fed(feeders):
    """The names that are left if those with nothing ahead of them are taken away as long as there are any."""
    behind = {name: [] for name in feeders}
    waits_for = {name: 0 for name in feeders}
    for name in feeders:
        for feeder in feeders[name]:
            if feeder in behind:
                behind[feeder].append(name)
                waits_for[name] += 1
    free = [name for name in feeders if not waits_for[name]]
    left = {name: True for name in feeders}
    while free:
        name = free.pop()
        del left[name]
        for other in behind[name]:
            waits_for[other] -= 1
            if not waits_for[other]:
                free.append(other)
    return left


def ring_of(feeders):
    """The names of a ring, each directly ahead of the next one, the last one of the first; () if there is none."""
    left = only_fed(feeders)
    if not left:
        return ()
    walked, places, name = [], {}, min(left)
    while name not in places:
        places[name] = len(walked)
        walked.append(name)
        name = [feeder for feeder in feeders[name] if feeder in left][0]
    # The walk goes from each name to one ahead of it, so the ring is read backwards.
    return tuple(walked[places[name]:][::-1])


def row_of(feeders):
    """All names, each behind those ahead of it, the least that can come first each time; None if there is a ring."""
    left, row = list(feeders), []
    while left:
        free = [name for name in left if not any([feeder in left for feeder in feeders[name]])]
        if not free:
            return None
        name = min(free)
        row.append(name)
        left.remove(name)
    return tuple(row)


def ahead_table(names, pairs):
    """Of each name the dict of those from which the pairs (one ahead, one behind) lead to it, step by step."""
    table = {name: {} for name in names}
    for one, other in pairs:
        table[other][one] = True
    for middle in names:
        for name in names:
            if middle in table[name]:
                table[name] = {**table[name], **table[middle]}
    return table
