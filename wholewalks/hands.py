"""The fewest hands for a plan, and trees that show that fewer do not do."""

from wholewalks.checks import is_integer, is_tuple_of
from wholewalks.coloring import least_apart
from wholewalks.errors import NoNumber
from wholewalks.needs import Grouping, need_of
from wholewalks.pieces import web
from wholewalks.plans import is_ascending
from wholewalks.standings import is_item


def fewest_hands(plan):
    """The least number of hands of a free dealing."""
    return max(least_dealing(plan)) + 1


def least_dealing(plan):
    """The least free dealing of the fewest hands."""
    return least_apart(plan.rows, web(plan))


def need(plan):
    """A need for the fewest hands."""
    pairs = web(plan)
    return need_of(plan.rows, pairs, max(least_apart(plan.rows, pairs)) + 1)


def is_need(plan, number, thing):
    """Whether a thing is a need for so many hands."""
    if not is_integer(number) or number < 1:
        raise NoNumber()
    queue = [(thing, Grouping(list(range(plan.rows)), web(plan)))]
    while queue:
        tree, grouping = queue.pop()
        if is_split(plan, grouping, tree):
            queue.append((tree[3], grouping.same(tree[1], tree[2])))
            queue.append((tree[4], grouping.apart(tree[1], tree[2])))
        elif not is_all(plan, grouping, number, tree):
            return False
    return True


def is_split(plan, grouping, thing):
    """Whether a thing goes on with two unlike groups that are there and not joined."""
    if not is_item("case", 5, thing):
        return False
    one, other = thing[1:3]
    if not is_group(plan, grouping, one) or not is_group(plan, grouping, other):
        return False
    return one != other and not grouping.is_joined(one, other)


def is_all(plan, grouping, number, thing):
    """Whether a thing tells so many groups that are there, each two of them joined."""
    if not is_item("all", 2, thing) or not is_tuple_of(number, thing[1]):
        return False
    for group in thing[1]:
        if not is_group(plan, grouping, group):
            return False
    return grouping.are_joined(thing[1])


def is_group(plan, grouping, thing):
    """Whether a thing is a group that is there."""
    return is_ascending(plan.rows, thing) and thing in grouping.groups
