"""What the document tells of rows dealt late, done once more in the plainest way."""

from tests.naive import all_phases, all_pieces, phase_steps
from wholewalks.plans import Plan

FIRST = ((0, ()), ())


class Late:
    """States of a plan whose rows are dealt late to so many hands."""

    def __init__(self, plan, hands):
        self.plan, self.hands = plan, hands
        self.pieces = all_pieces(plan)
        self.phases = all_phases(plan)

    def spoilt(self, state):
        phase, held = state
        for phases, rows in self.pieces:
            if phase in phases:
                hands = [hand for row, hand in held if row in rows]
                return len(set(hands)) < len(hands)
        return False

    def due(self, state):
        """The row that is to be dealt, or None."""
        (standing, ended), held = state
        item = self.plan.table[standing]
        if item[0] == "look" and item[1] not in ended and item[1] not in dict(held):
            return item[1]
        return None

    def dealt(self, state, hand):
        return (state[0], tuple(sorted(state[1] + ((self.due(state), hand),))))

    def steps(self, state):
        return [(target, state[1]) for _, target in phase_steps(self.plan, state[0])]

    def onward(self, state):
        """All the states that may come next."""
        if self.due(state) is None:
            return self.steps(state)
        return [self.dealt(state, hand) for hand in range(self.hands)]

    def all_states(self):
        found, queue = {FIRST}, [FIRST]
        while queue:
            for target in self.onward(queue.pop()):
                if target not in found:
                    found.add(target)
                    queue.append(target)
        return found

    def lost_states(self):
        """The states from which signs can lead to a spoilt one, whatever is dealt."""
        known = self.all_states()
        lost = {state for state in known if self.spoilt(state)}
        more = True
        while more:
            more = {state for state in known - lost
                    if (all if self.due(state) is not None else any)([target in lost for target in self.onward(state)] or [False])}
            lost |= more
        return lost

    def can(self):
        """Whether rows can be dealt late to so many hands."""
        return FIRST not in self.lost_states()

    def deals(self, table):
        """Whether a table of hands keeps all states unspoilt."""
        if not all(self.due(state) is not None and 0 <= hand < self.hands for state, hand in table.items()):
            return False
        found, queue = {FIRST}, [FIRST]
        while queue:
            state = queue.pop()
            if self.spoilt(state) or (self.due(state) is not None and state not in table):
                return False
            targets = self.steps(state) if self.due(state) is None else [self.dealt(state, table[state])]
            for target in targets:
                if target not in found:
                    found.add(target)
                    queue.append(target)
        return True

    def shows(self, table):
        """Whether a table of numbers shows that rows cannot be dealt late."""
        def below(state, number):
            return any(table.get(target, number) < number for target in self.steps(state))

        if FIRST not in table:
            return False
        for state, number in table.items():
            if number < 0 or (number == 0 and not self.spoilt(state)):
                return False
            if number > 0 and self.due(state) is None and not below(state, number):
                return False
            if number > 0 and self.due(state) is not None:
                after = [self.dealt(state, hand) for hand in range(self.hands)]
                if not all(self.spoilt(one) or below(one, number) for one in after):
                    return False
        return True


def late_hands(plan):
    """The least number of hands with which rows can be dealt late."""
    hands = 1
    while not Late(plan, hands).can():
        hands += 1
    return hands


def choosing_plan(lots, rows, letters):
    """A plan whose looks at row 0, each till the first a, choose one of these lots of rows, to be looked at by turns then.

    Of one letter there may be two lots: the second one is looked at if row 0 ends at once.
    """
    heads = len(lots) - 1
    starts = [heads + sum([len(lot) for lot in lots[:at]]) for at in range(len(lots) + 1)]
    table = []
    for head in range(heads):
        onward = head + 1 if head + 1 < heads else starts[-2]
        ways = (starts[head],) + (onward,) * (letters - 1)
        table.append(("look", 0, ways + (onward if letters == 1 else starts[-1],)))
    for start, lot in zip(starts, lots):
        for place, row in enumerate(lot):
            table.append(("look", row, (start + (place + 1) % len(lot),) * letters + (starts[-1],)))
    return Plan(rows, letters, tuple(table) + (("stop",),))
