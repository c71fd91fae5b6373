"""Statements, of which the blocks of scripts are made."""

from wholewalks.checks import is_between, is_integer, is_word
from wholewalks.standings import is_item, is_stop

MOST_BOX = 3
MOST_VALUE = 9
MOST_DEEP = 12
MOST_STATEMENTS = 200


def is_blocks(dealing, thing):
    """Whether a thing has a block for each hand of the dealing."""
    if not isinstance(thing, tuple) or len(thing) != max(dealing) + 1:
        return False
    judge = BlockJudge(dealing)
    for hand, block in enumerate(thing):
        if not judge.lets(hand, 1, 0, block):
            return False
    return True


class BlockJudge:
    """Judges blocks, and counts the statements of all of them together."""

    def __init__(self, dealing):
        self.dealing = dealing
        self.many = 0

    def lets(self, hand, deep, around, thing):
        """Whether a thing is a block of a hand, its statements so deep and within so many eaches."""
        if not isinstance(thing, tuple):
            return False
        if len(thing) > 0 and deep > MOST_DEEP:
            return False
        self.many += len(thing)
        if self.many > MOST_STATEMENTS:
            return False
        for statement in thing:
            if not self.lets_statement(hand, deep, around, statement):
                return False
        return True

    def lets_statement(self, hand, deep, around, thing):
        """Whether a thing is a statement that stands there."""
        if is_item("each", 4, thing):
            return (self.lets_row(hand, thing[1]) and is_box(thing[2])
                    and self.lets(hand, deep + 1, around + 1, thing[3]))
        if is_item("if", 5, thing):
            return (is_box(thing[1]) and is_value(thing[2]) and self.lets(hand, deep + 1, around, thing[3])
                    and self.lets(hand, deep + 1, around, thing[4]))
        if is_item("leave", 2, thing):
            return is_between(1, around, thing[1])
        if is_item("over", 2, thing):
            return is_between(0, max(self.dealing), thing[1]) and thing[1] != hand
        if is_item("set", 3, thing):
            return is_box(thing[1]) and is_value(thing[2])
        return is_stop(thing) or (is_item("say", 2, thing) and is_word(thing[1]))

    def lets_row(self, hand, thing):
        """Whether a thing is a row dealt to this hand."""
        return is_integer(thing) and 0 <= thing < len(self.dealing) and self.dealing[thing] == hand


def is_box(thing):
    """Whether a thing is a box."""
    return is_between(0, MOST_BOX, thing)


def is_value(thing):
    """Whether a thing is a value of a box."""
    return is_between(0, MOST_VALUE, thing)


def eaches_nested(block):
    """How many eaches are nested in a block at most."""
    most = 0
    for statement in block:
        if statement[0] == "each":
            most = max(most, 1 + eaches_nested(statement[3]))
        elif statement[0] == "if":
            most = max(most, eaches_nested(statement[3]), eaches_nested(statement[4]))
    return most
