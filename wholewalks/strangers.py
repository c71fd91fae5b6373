"""Contents on which programs, whoever made them, come to do otherwise than a plan."""

from wholewalks.checks import MOST_EVENTS, is_between, is_same, is_tuple_of
from wholewalks.contents import is_contents
from wholewalks.errors import Free, TooMany
from wholewalks.leading import first_unlike, need_program_for
from wholewalks.pieces import stuck


def broken(plan, program):
    """Contents on which the plan looks for ever at two rows of one hand, and the first unlike events there."""
    need_program_for(plan, program)
    found = stuck(plan, program.dealing)
    if found is None:
        raise Free()
    return with_first_unlike(plan, program, found[2], False)


def with_first_unlike(plan, program, contents, once):
    """The quadruple of contents and the first unlike events there, the program being led once or not."""
    found = first_unlike(plan, program, contents, MOST_EVENTS, once)
    if found is None:
        raise TooMany(MOST_EVENTS)
    return (contents,) + found


def is_broken(plan, program, thing):
    """Whether a thing is contents, and the first unlike events there."""
    need_program_for(plan, program)
    return tells_unlike(plan, program, thing, False)


def tells_unlike(plan, program, thing, once):
    """Whether a thing is contents, and the first unlike events there, the program being led once or not."""
    if not is_tuple_of(4, thing) or not is_contents(plan, thing[0]) or not is_between(0, MOST_EVENTS - 1, thing[1]):
        return False
    found = first_unlike(plan, program, thing[0], thing[1] + 1, once)
    return found is not None and found[0] == thing[1] and is_same(found[1], thing[2]) and is_same(found[2], thing[3])
