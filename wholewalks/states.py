"""States that are numbered as they are met, and the tables that come of them."""

from wholewalks.errors import TooMany
from wholewalks.programs import MOST_STANDINGS


class States:
    """States, each with the number of those that were met before it."""

    def __init__(self):
        self.known = []
        self.numbers = {}

    def number(self, state):
        """The number of a state."""
        if state not in self.numbers:
            self.numbers[state] = len(self.known)
            self.known.append(state)
        return self.numbers[state]


def table_of(source):
    """The table of all to which a source comes: item(standing) tells what a state does, and numbers where it leads."""
    table = []
    while len(table) < len(source.states.known):
        if len(source.states.known) > MOST_STANDINGS:
            raise TooMany(MOST_STANDINGS)
        table.append(source.item(len(table)))
    return tuple(table)


def changed(values, at, value):
    """The tuple with one value in the place of another."""
    return values[:at] + (value,) + values[at + 1:]
