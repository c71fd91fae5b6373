"""Plans that have the same events, and the clean plan of those that do."""

from wholewalks.checks import LETTERS
from wholewalks.classes import classes_of
from wholewalks.errors import OtherPlan
from wholewalks.meeting import event_graph
from wholewalks.plans import Plan, unbounded_plan


def need_same_kind(one, other):
    """Raises OtherPlan unless both are plans with as many rows and letters."""
    if not isinstance(one, Plan) or not isinstance(other, Plan):
        raise OtherPlan()
    if one.rows != other.rows or one.letters != other.letters:
        raise OtherPlan()


def alike(one, other):
    """Whether two plans have the same events on all contents."""
    return parting(one, other) is None


def parting(one, other):
    """Contents on which the events of two plans are unlike, None if there are none."""
    need_same_kind(one, other)
    labels, nexts = event_graph(one)
    more, others = event_graph(other)
    many = len(labels)
    labels.extend(more)
    nexts.extend([[node + many for node in row] for row in others])
    looks = unlike_looks(labels, nexts, many)
    if looks is None:
        return None
    return contents_of(one, looks)


def unlike_looks(labels, nexts, second):
    """The looks, pairs (row, way), behind which nodes 0 and second come to do unlike things, None if they never do.

    Nodes that must be alike are put into one heap: so each pair of heaps is
    gone into once at most.
    """
    heaps = list(range(len(labels)))
    trail = [(0, second, None, 0)]
    at = 0
    while at < len(trail):
        one, other = trail[at][:2]
        if labels[one] != labels[other]:
            return looks_to(labels, trail, at)
        first_heap = heap_of(heaps, one)
        other_heap = heap_of(heaps, other)
        if first_heap != other_heap:
            heaps[other_heap] = first_heap
            trail.extend([(nexts[one][way], nexts[other][way], at, way) for way in range(len(nexts[one]))])
        at += 1
    return None


def heap_of(heaps, node):
    """The node by which the heap of a node is known."""
    while heaps[node] != node:
        heaps[node] = heaps[heaps[node]]
        node = heaps[node]
    return node


def looks_to(labels, trail, at):
    """The looks that lead to a pair of the trail, in order."""
    looks = []
    while at is not None:
        before, way = trail[at][2:]
        if before is not None and labels[trail[before][0]][0] == "look":
            looks.append((labels[trail[before][0]][1], way))
        at = before
    return looks[::-1]


def contents_of(plan, looks):
    """Contents that all end and show just the letters of these looks."""
    words = [[] for _ in range(plan.rows)]
    for row, way in looks:
        if way < plan.letters:
            words[row].append(LETTERS[way])
    return tuple([("".join(word), "") for word in words])


def clean(plan):
    """The plan of the classes to which the runs of a plan come."""
    labels, nexts = event_graph(plan)
    classes = classes_of(labels, nexts)
    order = [0]
    numbers = {classes[0]: 0}
    table = []
    while len(table) < len(order):
        node = order[len(table)]
        targets = []
        for target in nexts[node]:
            if classes[target] not in numbers:
                numbers[classes[target]] = len(order)
                order.append(target)
            targets.append(numbers[classes[target]])
        table.append(item_of(labels[node], targets))
    return unbounded_plan(plan.rows, plan.letters, tuple(table))


def item_of(label, targets):
    """The standing that does what a label tells, and then leads to these."""
    if label[0] == "look":
        return ("look", label[1], tuple(targets))
    return label + tuple(targets)
