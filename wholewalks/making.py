"""Programs of whole walks that lead like a plan."""

from wholewalks.alikes import clean
from wholewalks.errors import NotFree
from wholewalks.graphs import strong_parts
from wholewalks.phasing import rows_ahead
from wholewalks.pieces import is_free, need_dealing
from wholewalks.programs import unbounded_program
from wholewalks.standings import onward
from wholewalks.states import States, changed, table_of

STOP = ("stop",)
NOWHERE = -1
LEAVING = -2


class Leader:
    """The standings of a program that leads like a plan.

    At each standing of the clean plan a hand has at most one walk open. When it
    needs another row it leaves that walk, and keeps in mind in which part of the
    plan this was: there the hand looks at the other row alone, and no part is
    come to twice. A row that was left so is found again by a CALL: the plan is
    led once more from its begin, by walks within those that are open and without
    its words, until it comes to this part; then the row is looked into as far as
    it was. What the other hands have opened for it is left.

    A state is (call, standing, opens, marks): opens has for each hand the row
    that it walks in this call, or None; marks for each row the part in which it
    was left, or None. In place of a standing stands LEAVING when a call leaves its
    walks, NOWHERE for what cannot come.
    """

    def __init__(self, plan, dealing):
        self.table = clean(plan).table
        self.dealing = dealing
        nexts = [onward(item) for item in self.table]
        self.parts = strong_parts(nexts)
        self.ahead = rows_ahead(self.table)
        self.leads = LeadsTo(nexts, self.parts)
        self.calls = Calls(max(dealing) + 1)
        self.states = States()
        self.depth = 1
        self.number((0, 0, (None,) * (max(dealing) + 1), (None,) * plan.rows))

    def number(self, state):
        """The number of the state to which all leads that makes no standing, as from here on."""
        found = None
        while found != state:
            found = state
            state = self.settled(state)
        return self.states.number(state)

    def settled(self, state):
        """The state behind this one, if this one makes no standing; itself otherwise."""
        call, standing, opens, marks = state
        if standing == NOWHERE:
            return state
        if standing == LEAVING:
            if self.calls.hand_to_leave(call, opens) is None:
                return self.calls.returns[call]
            return state
        if call > 0 and not self.leads.to(self.calls.goals[call])[standing]:
            # The plan came to the goal on these contents, so it never comes here on them.
            return (0, NOWHERE, (), ())
        item = self.table[standing]
        if item[0] == "say" and call > 0:
            return self.moved(state, item[2], opens)
        if item[0] == "look" and marks[item[1]] is not None and opens[self.dealing[item[1]]] is None:
            found = self.calls.number(state, item[1], self.dealing[item[1]])
            return (found, 0, (None,) * len(opens), (None,) * len(marks))
        return state

    def moved(self, state, target, opens):
        """The state behind a step to a standing, with these rows open."""
        call, standing, _, marks = state
        if call > 0 and self.parts[target] == self.calls.goals[call]:
            return (call, LEAVING, opens, ())
        ahead = self.ahead[target]
        kept = [mark if ahead >> row & 1 else None for row, mark in enumerate(marks)]
        return (call, target, opens, tuple(kept))

    def item(self, number):
        """What a state does."""
        state = self.states.known[number]
        call, standing, opens, marks = state
        if standing == NOWHERE:
            return STOP
        if standing == LEAVING:
            hand = self.calls.hand_to_leave(call, opens)
            return ("leave", hand, self.number((call, LEAVING, changed(opens, hand, None), ())))
        item = self.table[standing]
        if item[0] == "say":
            return ("say", item[1], self.number(self.moved(state, item[2], opens)))
        if item[0] == "stop":
            return item
        row = item[1]
        hand = self.dealing[row]
        if opens[hand] == row:
            return ("on", hand, self.nexts(state, hand, row))
        if opens[hand] is None:
            self.depth = max(self.depth, self.calls.heights[call][hand] + 1)
            return ("begin", row, self.nexts(state, hand, row))
        left = opens[hand]
        opens = changed(opens, hand, None)
        marks = changed(marks, left, self.parts[standing])
        return ("leave", hand, self.number(self.moved((call, standing, opens, marks), standing, opens)))

    def nexts(self, state, hand, row):
        """Where a look leads, by each letter and by the end."""
        targets = self.table[state[1]][2]
        walked = changed(state[2], hand, row)
        found = [self.number(self.moved(state, target, walked)) for target in targets[:-1]]
        found.append(self.number(self.moved(state, targets[-1], changed(state[2], hand, None))))
        return tuple(found)


class Calls:
    """The calls of a program by their numbers; number 0 is none, but the plan led for the first time.

    self.returns has the state that follows, self.goals the part up to which the
    plan is led, self.hands the hand that keeps its walk, self.heights for each hand
    how many walks it has open below those of the call.
    """

    def __init__(self, hands):
        self.numbers = {}
        self.returns = [None]
        self.goals = [None]
        self.hands = [None]
        self.heights = [(0,) * hands]

    def number(self, state, row, hand):
        """The call that finds a row again for a hand."""
        if state not in self.numbers:
            call, standing, opens, marks = state
            self.numbers[state] = len(self.returns)
            self.returns.append((call, standing, changed(opens, hand, row), changed(marks, row, None)))
            self.goals.append(marks[row])
            self.hands.append(hand)
            self.heights.append(tuple([height + (1 if held is not None else 0)
                                       for height, held in zip(self.heights[call], opens)]))
        return self.numbers[state]

    def hand_to_leave(self, call, opens):
        """The first hand that has a walk open which the call does not keep, None if there is none."""
        for hand, row in enumerate(opens):
            if row is not None and hand != self.hands[call]:
                return hand
        return None


class LeadsTo:
    """Tells which standings lead to a part."""

    def __init__(self, nexts, parts):
        self.parts = parts
        self.sources = [[] for _ in nexts]
        for standing, targets in enumerate(nexts):
            for target in targets:
                self.sources[target].append(standing)
        self.found = {}

    def to(self, part):
        """For each standing whether it leads to the part."""
        if part not in self.found:
            flags = [number == part for number in self.parts]
            queue = [at for at, flag in enumerate(flags) if flag]
            while queue:
                standing = queue.pop()
                for source in self.sources[standing]:
                    if not flags[source]:
                        flags[source] = True
                        queue.append(source)
            self.found[part] = flags
        return self.found[part]


def made(plan, dealing):
    """A program of this dealing that leads like the plan."""
    need_dealing(plan, dealing)
    if not is_free(plan, dealing):
        raise NotFree()
    leader = Leader(plan, dealing)
    table = table_of(leader)
    return unbounded_program(plan.rows, plan.letters, dealing, leader.depth, table)
