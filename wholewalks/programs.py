"""Programs of whole walks."""

from wholewalks.checks import is_between, is_dealing
from wholewalks.errors import BadProgram
from wholewalks.plans import MOST_LETTERS, MOST_ROWS
from wholewalks.standings import is_item, is_numbered, is_say, is_stop, is_table

MOST_DEPTH = 60
MOST_STANDINGS = 20000


class Program:
    """A program of a few hands that walk rows whole, each the rows that are dealt to it."""

    def __init__(self, rows, letters, dealing, depth, table):
        if not is_between(1, MOST_ROWS, rows):
            raise BadProgram("rows")
        if not is_between(1, MOST_LETTERS, letters):
            raise BadProgram("letters")
        if not is_dealing(rows, dealing):
            raise BadProgram("dealing")
        hands = max(dealing) + 1
        if not is_depth(hands, depth):
            raise BadProgram("depth")
        if not is_program_table(rows, letters, hands, table):
            raise BadProgram("table")
        self.rows = rows
        self.letters = letters
        self.dealing = dealing
        self.depth = depth
        self.table = table

    def __eq__(self, other):
        return (type(self) is type(other) and self.rows == other.rows and self.letters == other.letters
                and self.dealing == other.dealing and self.depth == other.depth and self.table == other.table)


def unbounded_program(rows, letters, dealing, depth, table):
    """The program of these whatever their sizes; they must surely make one."""
    program = Program(1, 1, (0,), 1, (("stop",),))
    program.rows = rows
    program.letters = letters
    program.dealing = dealing
    program.depth = depth
    program.table = table
    return program


def is_depth(hands, thing):
    """Whether a thing is a depth of a program of so many hands."""
    if thing is None:
        return hands == 1
    return is_between(1, MOST_DEPTH, thing)


def is_program_table(rows, letters, hands, thing):
    """Whether a thing is the table of a program with so many rows, letters and hands."""
    if not is_table(MOST_STANDINGS, thing):
        return False
    many = len(thing)
    for item in thing:
        walks = is_numbered("begin", rows, letters, many, item) or is_numbered("on", hands, letters, many, item)
        if not (walks or is_leave(hands, many, item) or is_say(many, item) or is_stop(item)):
            return False
    return True


def is_leave(hands, many, thing):
    """Whether a thing has one of so many hands leave its walk, and goes on to one of so many standings."""
    return is_item("leave", 3, thing) and is_between(0, hands - 1, thing[1]) and is_between(0, many - 1, thing[2])
