"""Rows that are dealt while a plan runs: with how many hands that can be done, and papers that show it."""

from wholewalks.checks import is_between, is_integer, is_same, is_tuple_of
from wholewalks.errors import NoNumber, TooMany
from wholewalks.hands import fewest_hands, least_dealing
from wholewalks.latestates import MOST_STATES, START, LateGame, LostStates, written

MOST_HANDS = 6


def late_hands(plan):
    """The least number of hands with which rows can be dealt late so that no state that is met is spoilt."""
    fewest = fewest_hands(plan)
    for hands in range(1, fewest):
        if LostStates(LateGame(plan, hands)).rank(START) is None:
            return hands
    return fewest


class FixedDealer:
    """Deals each row to the hand that it has in a dealing."""

    def __init__(self, dealing):
        self.dealing = dealing

    def choice(self, targets, row):
        """Which of the states that a state becomes if a row is dealt is the one to take."""
        return self.dealing[row]


class WaryDealer:
    """Deals each row so that the state is not lost; it was not before."""

    def __init__(self, lost):
        self.lost = lost

    def choice(self, targets, row):
        """Which of the states that a state becomes if a row is dealt is the one to take."""
        return [self.lost.rank(target) for target in targets].index(None)


def late_paper(plan, hands):
    """A table by which rows are dealt to so many hands, or one that shows that they cannot be."""
    need_hands(hands)
    game = LateGame(plan, hands)
    dealing = least_dealing(plan)
    if max(dealing) < hands:
        return ("dealt", dealt_table(game, FixedDealer(dealing)))
    lost = LostStates(game)
    if lost.rank(START) is None:
        return ("dealt", dealt_table(game, WaryDealer(lost)))
    return ("lost", lost_table(game, lost))


def need_hands(hands):
    """Raises NoNumber unless rows can be dealt late to so many hands."""
    if not is_between(1, MOST_HANDS, hands):
        raise NoNumber()


class StatesMet:
    """States, each once, in the order in which they are met."""

    def __init__(self):
        self.order = [START]
        self.known = {START: True}

    def put(self, state):
        """A state is met."""
        if state not in self.known:
            self.known[state] = True
            self.order.append(state)
            if len(self.order) > MOST_STATES:
                raise TooMany(MOST_STATES)


def dealt_table(game, dealer):
    """The hands to which a dealer deals at the states to which it comes."""
    met = StatesMet()
    table = {}
    at = 0
    while at < len(met.order):
        state = met.order[at]
        row = game.row_due(state)
        if row is None:
            targets = game.onward(state)
        else:
            targets = game.dealt(state, row)
            hand = dealer.choice(targets, row)
            table[written(state)] = hand
            targets = [targets[hand]]
        for target in targets:
            met.put(target)
        at += 1
    return table


def lost_table(game, lost):
    """The ranks of lost states that lead on to one another, from the first state on."""
    met = StatesMet()
    table = {}
    at = 0
    while at < len(met.order):
        state = met.order[at]
        table[written(state)] = lost.rank(state)
        row = game.row_due(state)
        if lost.rank(state) > 0:
            between = [state]
            if row is not None:
                between = game.dealt(state, row)
            for target in between:
                if not game.is_spoilt(target):
                    met.put(lost.least_onward(target))
        at += 1
    return table


def is_late_paper(plan, hands, thing):
    """Whether a thing is what late_paper may tell."""
    need_hands(hands)
    if not is_tuple_of(2, thing) or not isinstance(thing[1], dict):
        return False
    game = LateGame(plan, hands)
    table = {}
    for key, value in thing[1].items():
        state = game.state_of(key)
        if state is None or not is_integer(value):
            return False
        table[state] = value
    if is_same(("dealt",), thing[:1]):
        return deals_well(game, table)
    return is_same(("lost",), thing[:1]) and shows_lost(game, table)


def deals_well(game, table):
    """Whether a table has hands for states at which dealing is due, and no spoilt state is met by it."""
    for state, hand in table.items():
        if game.row_due(state) is None or not is_between(0, game.hands - 1, hand):
            return False
    known = {START: True}
    queue = [START]
    while queue:
        state = queue.pop()
        row = game.row_due(state)
        if game.is_spoilt(state) or (row is not None and state not in table):
            return False
        if row is None:
            targets = game.onward(state)
        else:
            targets = [game.dealt(state, row)[table[state]]]
        for target in targets:
            if target not in known:
                known[target] = True
                queue.append(target)
    return True


def shows_lost(game, table):
    """Whether a table has the first state, and each of its states is lost by those with lesser numbers."""
    if START not in table:
        return False
    for state, number in table.items():
        if number < 0 or (number == 0 and not game.is_spoilt(state)):
            return False
        row = game.row_due(state)
        between = []
        if number > 0 and row is None and not leads_below(game, table, state, number):
            return False
        if number > 0 and row is not None:
            between = game.dealt(state, row)
        for target in between:
            if not game.is_spoilt(target) and not leads_below(game, table, target, number):
                return False
    return True


def leads_below(game, table, state, number):
    """Whether some step leads from a state to one of the table that has a lesser number."""
    for target in game.onward(state):
        if target in table and table[target] < number:
            return True
    return False
