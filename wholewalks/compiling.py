"""Scripts made programs."""

from wholewalks.programs import Program
from wholewalks.states import table_of
from wholewalks.unfolding import Unfolding


def compiled(script):
    """A program with the events of the script, on all contents."""
    unfolding = Unfolding(script)
    return Program(script.rows, script.letters, script.dealing, unfolding.depth, table_of(unfolding))
