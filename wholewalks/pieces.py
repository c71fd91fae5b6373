"""Pieces of plans, the rows that they join, and contents on which these are looked at for ever."""

from wholewalks.alikes import contents_of
from wholewalks.checks import is_between, is_dealing, is_tuple_of
from wholewalks.contents import is_contents, least_content
from wholewalks.errors import NoDealing
from wholewalks.graphs import leads_within, strong_parts, trail_to
from wholewalks.meeting import event_graph
from wholewalks.phasing import full_mask, has_ended, phase_of, reached, steps_from
from wholewalks.running import looked


def pieces(plan):
    """The pairs (phases, rows) of all pieces, ascending."""
    found = []
    for piece in held_pieces(plan):
        found.append((tuple(sorted([phase_of(held) for held in piece])), rows_looked(plan, piece)))
    return sorted(found)


def held_pieces(plan):
    """The lists of phases, as keys, that make a piece."""
    order = list(reached(plan.table, full_mask(plan.rows)))
    numbers = {held: number for number, held in enumerate(order)}
    nexts = [[numbers[target] for _, target in steps_from(plan.table, held)] for held in order]
    parts = strong_parts(nexts)
    found = {}
    for node, held in enumerate(order):
        if leads_within(nexts, parts, node):
            found.setdefault(parts[node], []).append(held)
    return list(found.values())


def rows_looked(plan, piece):
    """The rows at which some step by a letter within a piece looks.

    A phase that looks at a row that has not ended has such a step: one of its
    steps stays within, and the one by the end is never undone.
    """
    found = {}
    for held in piece:
        item = plan.table[held[0]]
        if item[0] == "look" and not has_ended(item, held[1]):
            found[item[1]] = True
    return tuple(sorted(found))


def web(plan):
    """The pairs of joined rows, ascending."""
    found = {}
    for piece in held_pieces(plan):
        rows = rows_looked(plan, piece)
        for one in rows:
            for other in rows:
                if one < other:
                    found[one, other] = True
    return tuple(sorted(found))


def need_dealing(plan, thing):
    """Raises NoDealing unless a thing is a dealing of the plan's rows."""
    if not is_dealing(plan.rows, thing):
        raise NoDealing()


def is_apart(pairs, dealing):
    """Whether no two rows of a pair have one hand."""
    for one, other in pairs:
        if dealing[one] == dealing[other]:
            return False
    return True


def is_free(plan, thing):
    """Whether a thing is a free dealing of the plan's rows."""
    return is_dealing(plan.rows, thing) and is_apart(web(plan), thing)


def stuck(plan, dealing):
    """Two rows of one hand, and contents on which the plan looks at ever more letters of both; None if it is free."""
    need_dealing(plan, dealing)
    labels, nexts = event_graph(plan)
    parts = strong_parts(nexts)
    found = rows_of_one_hand(dealing, labels, parts)
    if found is None:
        return None
    one, other, part = found
    lead, ring = trail_round(labels, nexts, [number == part for number in parts], (one, other))
    heads = contents_of(plan, looks_of(labels, lead))
    rounds = contents_of(plan, looks_of(labels, ring))
    return (one, other, tuple([least_content((head[0], again[0])) for head, again in zip(heads, rounds)]))


def rows_of_one_hand(dealing, labels, parts):
    """Two rows of one hand at which one part looks, so again and again, and this part: (one, other, part), or None."""
    firsts = {}
    for node, label in enumerate(labels):
        if label[0] == "look":
            row = label[1]
            first = firsts.setdefault((parts[node], dealing[row]), row)
            if first != row:
                return (min(first, row), max(first, row), parts[node])
    return None


def trail_round(labels, nexts, within, rows):
    """Steps from the first node to a part, and steps round within it that look at a letter of each of the rows."""
    lead, start = trail_to(nexts, 0, nodes_that_look(labels, within, rows[0]))
    ring = []
    node = start
    for row in rows:
        more, node = trail_to(nexts, node, nodes_that_look(labels, within, row))
        ring.extend(more)
        # No end leads back, so this is a letter.
        way = [within[target] for target in nexts[node]].index(True)
        ring.append((node, way))
        node = nexts[node][way]
    more, _ = trail_to(nexts, node, [at == start for at in range(len(nexts))])
    return (lead, ring + more)


def nodes_that_look(labels, within, row):
    """For each node whether it is within and looks at the row."""
    return [inside and label == ("look", row) for inside, label in zip(within, labels)]


def looks_of(labels, steps):
    """The looks among steps, as pairs (row, way)."""
    return [(labels[node][1], way) for node, way in steps if labels[node][0] == "look"]


def is_stuck(plan, dealing, thing):
    """Whether a thing is what stuck may tell of two rows of one hand."""
    need_dealing(plan, dealing)
    if not is_tuple_of(3, thing):
        return False
    one, other, contents = thing
    if not is_between(0, plan.rows - 1, one) or not is_between(one + 1, plan.rows - 1, other):
        return False
    if dealing[one] != dealing[other] or not is_contents(plan, contents):
        return False
    many = looked(plan, contents)
    return many[one] is None and many[other] is None
