"""The events that a plan can come to, as a graph of nodes that each give one.

A node is a phase that looks at no row that has ended, less the ended rows that
are not looked at any more: nodes are phases' classes, or parts of classes.
"""

from wholewalks.phasing import FIRST, has_ended, rows_ahead, steps_from


def event_graph(plan):
    """The pair (labels, nexts): what each node does, and to which nodes it leads, by each letter and the end.

    Node 0 is the first one; a label is an item of the table less its nexts.
    """
    table = plan.table
    ahead = rows_ahead(table)
    order = [settled(table, ahead, FIRST)]
    numbers = {order[0]: 0}
    nexts = []
    while len(nexts) < len(order):
        row = []
        for _, phase in steps_from(table, order[len(nexts)]):
            held = settled(table, ahead, phase)
            if held not in numbers:
                numbers[held] = len(order)
                order.append(held)
            row.append(numbers[held])
        nexts.append(row)
    return ([table[held[0]][:2] for held in order], nexts)


def settled(table, ahead, phase):
    """The node to which looks at rows that have ended lead from a phase."""
    standing, mask = phase
    while has_ended(table[standing], mask):
        standing = table[standing][2][-1]
    return (standing, mask & ahead[standing])
