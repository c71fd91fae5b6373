"""The events of programs, beside those of plans."""

from wholewalks.checks import need_many
from wholewalks.contents import need_contents
from wholewalks.errors import OtherPlan
from wholewalks.plans import Plan
from wholewalks.programs import Program
from wholewalks.running import Course
from wholewalks.walking import Telling, Walking, led_events


def program_events(program, contents, many):
    """The first so many events of a program on contents, all if they are fewer."""
    return events_led(program, contents, many, False)


def once_events(program, contents, many):
    """The same while each row can be walked once only."""
    return events_led(program, contents, many, True)


def events_led(program, contents, many, once):
    """The first so many events of a program, led once or not."""
    need_contents(program, contents)
    need_many(many)
    return led_events(Walking(program, contents, once), many)


def held(plan, program, contents, many):
    """The first place at which the events of both are unlike, with these; None if the first so many are the same."""
    need_program_for(plan, program)
    return first_unlike(plan, program, contents, many, False)


def need_program_for(plan, program):
    """Raises OtherPlan unless both are what they are called, with as many rows and letters."""
    if not isinstance(plan, Plan) or not isinstance(program, Program):
        raise OtherPlan()
    if plan.rows != program.rows or plan.letters != program.letters:
        raise OtherPlan()


def first_unlike(plan, program, contents, many, once):
    """The same for a plan and a program that go together, the program being led once or not."""
    need_contents(plan, contents)
    need_many(many)
    course = Course(plan, contents)
    telling = Telling(Walking(program, contents, once))
    for at in range(many):
        one = course.event()
        other = telling.event()
        if one != other:
            return (at, one, other)
        # A stop is the only event by which both are over.
        if telling.is_over:
            return None
    return None
