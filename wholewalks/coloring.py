"""Hands for rows some pairs of which must not have one hand."""


def neighbours(rows, pairs):
    """For each of so many rows those that stand in a pair with it."""
    found = [[] for _ in range(rows)]
    for one, other in pairs:
        found[one].append(other)
        found[other].append(one)
    return found


def least_apart(rows, pairs):
    """The least dealing of so many rows to the fewest hands in which no pair has one hand."""
    near = neighbours(rows, pairs)
    many = 1
    hands = hands_below(near, many)
    while hands is None:
        many += 1
        hands = hands_below(near, many)
    return hands


def hands_below(near, many):
    """The least tuple of hands below so many, None if there is none.

    Rows that no chain of pairs links are dealt apart: so a heap of rows for which
    the hands are too few is not tried with each dealing of the others.
    """
    hands = [None] * len(near)
    for row in range(len(near)):
        if hands[row] is None:
            heap = linked(near, row)
            found = least_hands(near, heap, many)
            if found is None:
                return None
            for other, hand in zip(heap, found):
                hands[other] = hand
    return tuple(hands)


def linked(near, row):
    """All rows that a chain of pairs links with a row, itself too, ascending."""
    found = {row: True}
    queue = [row]
    while queue:
        last = queue.pop()
        for other in near[last]:
            if other not in found:
                found[other] = True
                queue.append(other)
    return sorted(found)


def least_hands(near, heap, many):
    """The least list of hands below so many for the rows of a heap, None if there is none."""
    hands = {}
    least = [0] * len(heap)
    at = 0
    while 0 <= at < len(heap):
        hand = free_hand(near[heap[at]], hands, least[at], many)
        if hand is not None:
            hands[heap[at]] = hand
            at += 1
            if at < len(heap):
                least[at] = 0
        else:
            at -= 1
            if at >= 0:
                least[at] = hands.pop(heap[at]) + 1
    if at < 0:
        return None
    return [hands[row] for row in heap]


def free_hand(others, hands, least, many):
    """The least hand from least on, below many, that none of the others has; None if there is none."""
    taken = {hands[row]: True for row in others if row in hands}
    # Of the hands that nobody has yet the least one stands for all.
    above = min(many, max([0] + [hand + 1 for hand in hands.values()]) + 1)
    for hand in range(least, above):
        if hand not in taken:
            return hand
    return None
