"""Plans whose rows are each walked once only."""

from wholewalks.alikes import clean, contents_of
from wholewalks.alternating import MANY_TURNS, crossing_trail, looked_row, turn_places
from wholewalks.checks import is_between, is_integer, is_tuple_of
from wholewalks.coloring import least_apart
from wholewalks.contents import is_contents
from wholewalks.errors import Free, NoRow, NotFree
from wholewalks.leading import need_program_for
from wholewalks.meeting import event_graph
from wholewalks.pieces import is_apart, need_dealing
from wholewalks.programs import unbounded_program
from wholewalks.running import whole_run
from wholewalks.states import States, changed, table_of
from wholewalks.strangers import tells_unlike, with_first_unlike


def crosses(plan):
    """The pairs of rows that cross, ascending."""
    labels, nexts = event_graph(plan)
    found = []
    for one in range(plan.rows):
        for other in range(one + 1, plan.rows):
            if crossing_trail(labels, nexts, one, other) is not None:
                found.append((one, other))
    return tuple(found)


def need_rows(plan, one, other):
    """Raises NoRow unless these are two rows of the plan."""
    for row in (one, other):
        if not is_between(0, plan.rows - 1, row):
            raise NoRow()
    if one == other:
        raise NoRow()


def crossing(plan, one, other):
    """Contents that all end, and the places of four looks at two rows by turns there; None if they do not cross."""
    need_rows(plan, one, other)
    labels, nexts = event_graph(plan)
    trail = crossing_trail(labels, nexts, one, other)
    if trail is None:
        return None
    nodes, ways = trail
    rows = [looked_row(labels[node]) for node in nodes]
    looks = [(row, way) for row, way in zip(rows, ways) if row is not None]
    return (contents_of(plan, looks), turn_places(rows, one, other))


def is_crossing(plan, one, other, thing):
    """Whether a thing is contents, and the places of four looks at two rows by turns there."""
    need_rows(plan, one, other)
    if not is_tuple_of(2, thing) or not is_contents(plan, thing[0]) or not is_places(thing[1]):
        return False
    first, ring = whole_run(plan, thing[0])
    rows = [row_at(first, ring, place) for place in thing[1]]
    return rows == [one, other, one, other] or rows == [other, one, other, one]


def is_places(thing):
    """Whether a thing is an ascending quadruple of places."""
    if not is_tuple_of(MANY_TURNS, thing):
        return False
    least = 0
    for place in thing:
        if not is_integer(place) or place < least:
            return False
        least = place + 1
    return True


def row_at(first, ring, place):
    """The row at which the event at a place looks, None if there is no such look."""
    if place < len(first):
        return looked_row(first[place])
    if len(ring) == 0:
        return None
    return looked_row(ring[(place - len(first)) % len(ring)])


def fewest_once(plan):
    """The least number of hands with which each row need be walked once only."""
    return max(least_once(plan)) + 1


def least_once(plan):
    """The least dealing to so few hands no two rows of one of which cross."""
    return least_apart(plan.rows, crosses(plan))


class OnceLeader:
    """The standings of a program that leads like a plan, and walks each row once.

    A state is (standing of the clean plan, open rows): for each hand the rows
    that it walks, the outermost first. A row that is to be looked at and walked
    further out is come to by leaving those within it; they are not looked at
    any more, or they would cross it.
    """

    def __init__(self, plan, dealing):
        self.table = clean(plan).table
        self.dealing = dealing
        self.depth = 1
        self.states = States()
        self.states.number((0, ((),) * (max(dealing) + 1)))

    def item(self, number):
        """What a state does."""
        standing, walked = self.states.known[number]
        item = self.table[standing]
        if item[0] == "say":
            return ("say", item[1], self.states.number((item[2], walked)))
        if item[0] == "stop":
            return item
        row = item[1]
        hand = self.dealing[row]
        rows = walked[hand]
        if row not in rows:
            self.depth = max(self.depth, len(rows) + 1)
            return ("begin", row, self.nexts(item[2], walked, hand, rows + (row,)))
        if rows[-1] == row:
            return ("on", hand, self.nexts(item[2], walked, hand, rows))
        return ("leave", hand, self.states.number((standing, changed(walked, hand, rows[:-1]))))

    def nexts(self, targets, walked, hand, rows):
        """Where a look at the last one of these rows leads, by each letter and by the end."""
        found = [self.states.number((target, changed(walked, hand, rows))) for target in targets[:-1]]
        found.append(self.states.number((targets[-1], changed(walked, hand, rows[:-1]))))
        return tuple(found)


def made_once(plan, dealing):
    """A program of this dealing that leads like the plan, led once."""
    need_dealing(plan, dealing)
    if not is_apart(crosses(plan), dealing):
        raise NotFree()
    leader = OnceLeader(plan, dealing)
    table = table_of(leader)
    return unbounded_program(plan.rows, plan.letters, dealing, leader.depth, table)


def broken_once(plan, program):
    """Contents that all end, and the first unlike events there, the program being led once.

    Any contents do on which the plan looks at two rows of one hand by turns: to
    look at the one again the hand must have left the other, or never come to the one.
    """
    need_program_for(plan, program)
    pairs = [(one, other) for one, other in crosses(plan) if program.dealing[one] == program.dealing[other]]
    if not pairs:
        raise Free()
    return with_first_unlike(plan, program, crossing(plan, pairs[0][0], pairs[0][1])[0], True)


def is_broken_once(plan, program, thing):
    """Whether a thing is contents that all end, and the first unlike events there, the program being led once."""
    need_program_for(plan, program)
    return tells_unlike(plan, program, thing, True) and all_end(thing[0])


def all_end(contents):
    """Whether all contents end."""
    for _, ring in contents:
        if ring != "":
            return False
    return True
