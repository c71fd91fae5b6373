"""Plans put together, and plans with their rows by other numbers."""

from wholewalks.alikes import need_same_kind
from wholewalks.checks import is_integer, is_tuple_of
from wholewalks.errors import NoNumbers, OtherPlan
from wholewalks.plans import Plan, unbounded_plan


def behind(one, other):
    """First what the one does, then, in the place of its stop, what the other does, on the same rows."""
    need_same_kind(one, other)
    return put_behind(one, other, list(range(one.rows)), one.rows)


def beside(one, other):
    """The same for the other on rows of its own, numbered behind those of the one."""
    if not isinstance(one, Plan) or not isinstance(other, Plan) or one.letters != other.letters:
        raise OtherPlan()
    rows = one.rows + other.rows
    return put_behind(one, other, list(range(one.rows, rows)), rows)


def put_behind(one, other, numbers, rows):
    """The plan of so many rows that does the one, then the other with its rows by these numbers."""
    many = len(one.table)
    later = [moved(item, numbers, many) for item in other.table]
    table = []
    for item in one.table:
        if item[0] == "stop":
            table.append(later[0])
        else:
            table.append(item)
    return unbounded_plan(rows, one.letters, tuple(table + later))


def moved(item, numbers, many):
    """An item with its row by another number, and its standings numbered so many on."""
    if item[0] == "look":
        return ("look", numbers[item[1]], tuple([standing + many for standing in item[2]]))
    if item[0] == "say":
        return ("say", item[1], item[2] + many)
    return item


def renumbered(plan, numbers):
    """The plan with its rows by other numbers."""
    if not is_numbers(plan.rows, numbers):
        raise NoNumbers()
    table = [moved(item, numbers, 0) for item in plan.table]
    return unbounded_plan(plan.rows, plan.letters, tuple(table))


def is_numbers(rows, thing):
    """Whether a thing has each of so many rows once."""
    if not is_tuple_of(rows, thing):
        return False
    for row in thing:
        if not is_integer(row):
            return False
    return sorted(thing) == list(range(rows))
