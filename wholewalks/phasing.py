"""Phases of the table of a plan, each a pair (standing, mask): the rows that have ended are the bits of the mask."""

from wholewalks.checks import LETTERS
from wholewalks.standings import onward

FIRST = (0, 0)


def rows_of(mask):
    """The rows of a mask, as an ascending tuple."""
    return tuple([row for row in range(mask.bit_length()) if mask >> row & 1])


def mask_of(rows):
    """The mask of a tuple of unlike rows."""
    return sum([1 << row for row in rows])


def full_mask(rows):
    """The mask of so many rows, all of them."""
    return (1 << rows) - 1


def phase_of(held):
    """The phase as the document writes it."""
    standing, mask = held
    return (standing, rows_of(mask))


def has_ended(item, mask):
    """Whether an item looks at a row of the mask."""
    return item[0] == "look" and mask >> item[1] & 1 == 1


def steps_from(table, held):
    """The steps from a phase, in order, as pairs (sign, phase), sign None for a single one."""
    standing, mask = held
    item = table[standing]
    if item[0] == "stop":
        return []
    if item[0] == "say":
        return [(None, (item[2], mask))]
    nexts = item[2]
    if has_ended(item, mask):
        return [(None, (nexts[-1], mask))]
    found = [(LETTERS[k], (nexts[k], mask)) for k in range(len(nexts) - 1)]
    found.append(("end", (nexts[-1], mask | (1 << item[1]))))
    return found


def reached(table, within):
    """All phases, as keys, to which steps lead from the first one while no row ends but those of the mask within."""
    found = {FIRST: True}
    queue = [FIRST]
    while queue:
        held = queue.pop()
        for _, target in steps_from(table, held):
            if target not in found and target[1] & within == target[1]:
                found[target] = True
                queue.append(target)
    return found


def lone_target(table, held):
    """Where a single step leads from a phase, None if there is none."""
    standing, mask = held
    item = table[standing]
    if item[0] == "say":
        return (item[2], mask)
    if has_ended(item, mask):
        return (item[2][-1], mask)
    return None


def idle_ring(table, rows):
    """Phases that lead round by single steps, None if there are none.

    No other ring can do without a letter: a step by an end is never undone.
    """
    done = {}
    for start in reached(table, full_mask(rows)):
        path = []
        spots = {}
        held = start
        while held is not None and held not in done:
            if held in spots:
                return tuple([phase_of(other) for other in path[spots[held]:]])
            spots[held] = len(path)
            path.append(held)
            held = lone_target(table, held)
        for other in path:
            done[other] = True
    return None


def rows_ahead(table):
    """For each standing the mask of the rows at which looks can come from it on, or of more."""
    masks = [0] * len(table)
    sources = [[] for _ in table]
    for standing, item in enumerate(table):
        if item[0] == "look":
            masks[standing] = 1 << item[1]
        for target in onward(item):
            sources[target].append(standing)
    queue = list(range(len(table)))
    while queue:
        standing = queue.pop()
        for source in sources[standing]:
            mask = masks[source] | masks[standing]
            if mask != masks[source]:
                masks[source] = mask
                queue.append(source)
    return masks
