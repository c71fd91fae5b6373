"""Plans, their phases and the steps between these."""

from wholewalks.checks import is_between, is_tuple_of
from wholewalks.errors import BadPlan, Idle, NoPhase
from wholewalks.phasing import full_mask, idle_ring, mask_of, phase_of, reached, steps_from
from wholewalks.standings import is_numbered, is_say, is_stop, is_table

MOST_ROWS = 6
MOST_LETTERS = 3
MOST_STANDINGS = 30


class Plan:
    """A plan asks for next letters of several rows by turns, says words, and may stop."""

    def __init__(self, rows, letters, table):
        if not is_between(1, MOST_ROWS, rows):
            raise BadPlan("rows")
        if not is_between(1, MOST_LETTERS, letters):
            raise BadPlan("letters")
        if not is_plan_table(rows, letters, table):
            raise BadPlan("table")
        ring = idle_ring(table, rows)
        if ring is not None:
            raise Idle(ring)
        self.rows = rows
        self.letters = letters
        self.table = table

    def __eq__(self, other):
        return (type(self) is type(other) and self.rows == other.rows and self.letters == other.letters
                and self.table == other.table)


def is_plan_table(rows, letters, thing):
    """Whether a thing is the table of a plan with so many rows and letters."""
    if not is_table(MOST_STANDINGS, thing):
        return False
    many = len(thing)
    for item in thing:
        if not (is_numbered("look", rows, letters, many, item) or is_say(many, item) or is_stop(item)):
            return False
    return True


def unbounded_plan(rows, letters, table):
    """The plan of these whatever their sizes; they must surely make one."""
    plan = Plan(1, 1, (("stop",),))
    plan.rows = rows
    plan.letters = letters
    plan.table = table
    return plan


def phases(plan):
    """All phases to which steps lead from the first one, ascending."""
    return sorted([phase_of(held) for held in reached(plan.table, full_mask(plan.rows))])


def steps(plan, phase):
    """The steps from a phase, in order, as pairs (sign, phase)."""
    if not is_phase(plan, phase):
        raise NoPhase()
    held = (phase[0], mask_of(phase[1]))
    return [(sign, phase_of(target)) for sign, target in steps_from(plan.table, held)]


def is_phase(plan, thing):
    """Whether a thing is a phase of the plan."""
    if not is_tuple_of(2, thing) or not is_between(0, len(plan.table) - 1, thing[0]):
        return False
    if not is_ascending(plan.rows, thing[1]):
        return False
    mask = mask_of(thing[1])
    return (thing[0], mask) in reached(plan.table, mask)


def is_ascending(rows, thing):
    """Whether a thing is an ascending tuple of rows, of so many rows."""
    if not isinstance(thing, tuple):
        return False
    least = 0
    for row in thing:
        if not is_between(least, rows - 1, row):
            return False
        least = row + 1
    return True
