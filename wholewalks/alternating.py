"""Looks at two rows by turns, as they come in a plan."""

from wholewalks.graphs import steps_back

MANY_TURNS = 4


def crossing_trail(labels, nexts, one, other):
    """The shortest trail to a look that is the fourth one at two rows by turns, None if there is none.

    It is the list of its nodes: each of them is that of one event, the last
    one that of the fourth look; and the list of the ways by which it goes on from them.
    """
    start = (0, None, 0)
    back = {start: None}
    queue = [start]
    at = 0
    while at < len(queue):
        node, last, turns = queue[at]
        row = looked_row(labels[node])
        if row != last and (row == one or row == other):
            last = row
            turns += 1
        if turns == MANY_TURNS:
            steps = steps_back(back, queue[at])
            return ([state[0] for state, _ in steps] + [node], [way for _, way in steps])
        for way, target in enumerate(nexts[node]):
            if (target, last, turns) not in back:
                back[target, last, turns] = (queue[at], way)
                queue.append((target, last, turns))
        at += 1
    return None


def looked_row(label):
    """The row at which a node looks, None if it does something else."""
    if label[0] == "look":
        return label[1]
    return None


def turn_places(rows, one, other):
    """The places at which a list of rows has these two by turns, each time as early as can be."""
    found = []
    last = None
    for at, row in enumerate(rows):
        if row != last and (row == one or row == other):
            found.append(at)
            last = row
    return tuple(found)
