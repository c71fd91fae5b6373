"""States of a plan whose rows are dealt while it runs, and which of them are lost.

A state is (phase, held): the phase is a pair (standing, mask), held an ascending
tuple of the pairs (row, hand) of the rows dealt so far.
"""

from wholewalks.checks import is_between, is_tuple_of
from wholewalks.errors import TooMany
from wholewalks.phasing import full_mask, has_ended, mask_of, phase_of, reached, steps_from
from wholewalks.pieces import held_pieces, rows_looked
from wholewalks.plans import is_ascending

MOST_STATES = 20000
START = ((0, 0), ())


class LateGame:
    """What can come while the rows of a plan are dealt late to so many hands."""

    def __init__(self, plan, hands):
        self.plan = plan
        self.hands = hands
        self.known = reached(plan.table, full_mask(plan.rows))
        self.rows = {}
        for piece in held_pieces(plan):
            rows = rows_looked(plan, piece)
            for phase in piece:
                self.rows[phase] = rows

    def row_due(self, state):
        """The row that is to be dealt at a state, None if none is."""
        (standing, mask), held = state
        item = self.plan.table[standing]
        if item[0] != "look" or has_ended(item, mask) or item[1] in [row for row, _ in held]:
            return None
        return item[1]

    def is_spoilt(self, state):
        """Whether two rows of one hand are both rows of the piece of the phase."""
        phase, held = state
        rows = self.rows.get(phase, ())
        hands = [hand for row, hand in held if row in rows]
        return len(set(hands)) < len(hands)

    def onward(self, state):
        """The states to which steps lead."""
        phase, held = state
        return [(target, held) for _, target in steps_from(self.plan.table, phase)]

    def dealt(self, state, row):
        """The states that a state becomes if a row is dealt, to each hand in order."""
        phase, held = state
        return [(phase, tuple(sorted(held + ((row, hand),)))) for hand in range(self.hands)]

    def state_of(self, thing):
        """The state that a thing, written as the document has it, is; None if it is none."""
        if not is_tuple_of(2, thing) or not is_tuple_of(2, thing[0]) or not self.is_held(thing[1]):
            return None
        standing, ended = thing[0]
        if not is_ascending(self.plan.rows, ended) or (standing, mask_of(ended)) not in self.known:
            return None
        return ((standing, mask_of(ended)), thing[1])

    def is_held(self, thing):
        """Whether a thing is an ascending tuple of pairs of a row and its hand, each row once."""
        if not isinstance(thing, tuple):
            return False
        least = 0
        for pair in thing:
            if not is_tuple_of(2, pair) or not is_between(least, self.plan.rows - 1, pair[0]):
                return False
            if not is_between(0, self.hands - 1, pair[1]):
                return False
            least = pair[0] + 1
        return True


def written(state):
    """A state as the document writes it."""
    return (phase_of(state[0]), state[1])


def plain(state):
    """The state with its hands numbered as they are met: what can come is the same."""
    phase, held = state
    numbers = {}
    for _, hand in held:
        numbers.setdefault(hand, len(numbers))
    return (phase, tuple([(row, numbers[hand]) for row, hand in held]))


class LostStates:
    """The plain states from which, whatever is dealt, some signs lead to a spoilt one.

    self.ranks has 0 for the spoilt ones, for others how many were found lost
    before: so each one is lost by states of lesser rank. self.left tells for
    each state how many more of those to which it leads must be lost before it is.
    """

    def __init__(self, game):
        self.game = game
        self.order = [START]
        self.numbers = {START: 0}
        self.sources = [[]]
        self.left = []
        while len(self.left) < len(self.order):
            if len(self.order) > MOST_STATES:
                raise TooMany(MOST_STATES)
            self.meet(len(self.left))
        self.ranks = {}
        self.find_lost()

    def meet(self, at):
        """Numbers all to which a state leads."""
        state = self.order[at]
        if self.game.is_spoilt(state):
            self.left.append(0)
            return
        row = self.game.row_due(state)
        if row is None:
            targets = [plain(target) for target in self.game.onward(state)]
            self.left.append(1)
        else:
            targets = sorted(set([plain(target) for target in self.game.dealt(state, row)]))
            self.left.append(len(targets))
        for target in targets:
            if target not in self.numbers:
                self.numbers[target] = len(self.order)
                self.order.append(target)
                self.sources.append([])
            self.sources[self.numbers[target]].append(at)

    def find_lost(self):
        """Finds the lost states, from the spoilt ones backwards."""
        queue = [at for at, many in enumerate(self.left) if many == 0]
        for at in queue:
            self.ranks[self.order[at]] = 0
        found = 0
        while found < len(queue):
            sources = self.sources[queue[found]]
            for source in sources:
                self.left[source] -= 1
                if self.left[source] == 0:
                    self.ranks[self.order[source]] = len(queue)
                    queue.append(source)
            found += 1

    def rank(self, state):
        """The rank of a state, None if it is not lost."""
        return self.ranks.get(plain(state))

    def least_onward(self, state):
        """Of the lost states to which steps lead, the one of least rank."""
        best = None
        for target in self.game.onward(state):
            rank = self.rank(target)
            if rank is not None and (best is None or rank < self.rank(best)):
                best = target
        return best
