"""A bench on which a plan is changed, and changes are taken back."""

from wholewalks.checks import is_between, is_dealing
from wholewalks.errors import NoDealing, NoPlace, NoRow, NoStanding, NothingDone
from wholewalks.hands import fewest_hands, least_dealing
from wholewalks.once import crosses
from wholewalks.pieces import web
from wholewalks.plans import Plan
from wholewalks.states import changed


class Bench:
    """A plan that is changed, and a dealing of its rows.

    self.held is the pair of both; self.trail has for each change that is not
    taken back what was held before.
    """

    def __init__(self, plan):
        self.held = (plan, least_dealing(plan))
        self.trail = []

    def change(self, plan, dealing):
        """Holds another plan and another dealing."""
        self.trail.append(self.held)
        self.held = (plan, dealing)

    def change_table(self, rows, table):
        """Holds the plan of so many rows with this table."""
        plan, dealing = self.held
        hands = max(dealing) + 1
        plan = Plan(rows, plan.letters, table)
        self.change(plan, dealing + tuple(range(hands, hands + rows - len(dealing))))

    def item(self, standing):
        """What the plan does at a standing."""
        table = self.held[0].table
        if not is_between(0, len(table) - 1, standing):
            raise NoStanding()
        return table[standing]

    def turn(self, standing, place, target):
        """A place of the nexts at a look, or the next of a say, becomes the target."""
        item = self.item(standing)
        if item[0] == "look" and is_between(0, len(item[2]) - 1, place):
            item = ("look", item[1], changed(item[2], place, target))
        elif item[0] == "say" and is_between(0, 0, place):
            item = ("say", item[1], target)
        else:
            raise NoPlace()
        self.exchange(standing, item)

    def put(self, item):
        """An item is one more standing, behind the others."""
        plan = self.held[0]
        self.change_table(plan.rows, plan.table + (item,))

    def exchange(self, standing, item):
        """An item takes the place of that of a standing."""
        self.item(standing)
        plan = self.held[0]
        self.change_table(plan.rows, changed(plan.table, standing, item))

    def row(self):
        """There is one more row, behind the others, which has a hand of its own."""
        plan = self.held[0]
        self.change_table(plan.rows + 1, plan.table)

    def plan(self):
        """The plan."""
        return self.held[0]

    def web(self):
        """The pairs of joined rows of the plan."""
        return web(self.held[0])

    def fewest(self):
        """The least number of hands of a free dealing of the plan."""
        return fewest_hands(self.held[0])

    def crosses(self):
        """The pairs of rows of the plan that cross."""
        return crosses(self.held[0])

    def dealt(self):
        """The dealing that is held."""
        return self.held[1]

    def deal(self, row, hand):
        """A row is dealt to another hand."""
        plan, dealing = self.held
        if not is_between(0, plan.rows - 1, row):
            raise NoRow()
        dealing = changed(dealing, row, hand)
        if not is_dealing(plan.rows, dealing):
            raise NoDealing()
        self.change(plan, dealing)

    def joined(self):
        """The pairs of joined rows that have one hand in the dealing, ascending."""
        dealing = self.held[1]
        return [pair for pair in self.web() if dealing[pair[0]] == dealing[pair[1]]]

    def back(self):
        """Takes back the last change that is not taken back."""
        if not self.trail:
            raise NothingDone()
        self.held = self.trail.pop()

    def changes(self):
        """How many changes can be taken back."""
        return len(self.trail)

    def trying(self, action):
        """What an action returns that is called with the bench; all that it changes is put back."""
        held = self.held
        trail = list(self.trail)
        try:
            return action(self)
        finally:
            self.held = held
            self.trail = trail

    def copy(self):
        """Another bench that goes on apart, and can go back likewise."""
        other = Bench(self.held[0])
        other.held = self.held
        other.trail = list(self.trail)
        return other
