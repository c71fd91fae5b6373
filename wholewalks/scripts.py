"""Scripts: nested walks of rows, by hands that hand over to one another."""

from wholewalks.checks import is_between, is_dealing, need_many
from wholewalks.contents import need_contents
from wholewalks.errors import BadScript
from wholewalks.plans import MOST_LETTERS, MOST_ROWS
from wholewalks.statements import is_blocks
from wholewalks.unfolding import Unfolding
from wholewalks.walking import Walking, led_events


class Script:
    """A script of a few hands, each with a block of statements."""

    def __init__(self, rows, letters, dealing, blocks):
        if not is_between(1, MOST_ROWS, rows):
            raise BadScript("rows")
        if not is_between(1, MOST_LETTERS, letters):
            raise BadScript("letters")
        if not is_dealing(rows, dealing):
            raise BadScript("dealing")
        if not is_blocks(dealing, blocks):
            raise BadScript("blocks")
        self.rows = rows
        self.letters = letters
        self.dealing = dealing
        self.blocks = blocks

    def __eq__(self, other):
        return (type(self) is type(other) and self.rows == other.rows and self.letters == other.letters
                and self.dealing == other.dealing and self.blocks == other.blocks)


class ScriptWalking(Walking):
    """A run of a script, whose standings are made as they are met."""

    def item(self):
        """What the standing tells."""
        return self.program.item(self.standing)


def script_events(script, contents, many):
    """The first so many events of a script on contents, all if they are fewer."""
    need_contents(script, contents)
    need_many(many)
    return led_events(ScriptWalking(Unfolding(script), contents, False), many)
