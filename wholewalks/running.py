"""Runs of plans on contents, and their events."""

from wholewalks.checks import need_many
from wholewalks.contents import need_contents
from wholewalks.rounds import Turn, shortest
from wholewalks.standings import NEXTS

STOP = ("stop",)


class Course:
    """A run of a plan, led event by event.

    The signs of a row are written once, with the places from which they come
    round; a row whose place is behind all that is written has ended.
    """

    def __init__(self, plan, contents):
        self.table = plan.table
        self.signs = [written(content) for content in contents]
        self.backs = [back_place(content) for content in contents]
        self.standing = 0
        self.places = [0] * plan.rows

    def state(self):
        """What tells, beside the standing, how the run goes on."""
        return list(self.places)

    def event(self):
        """Does all up to the next event, which is returned; a stop is not left any more."""
        while True:
            item = self.table[self.standing]
            if item[0] == "stop":
                return item
            if item[0] == "say":
                self.standing = item[2]
                return ("say", item[1])
            row = item[1]
            if self.places[row] < len(self.signs[row]):
                sign = self.signs[row][self.places[row]]
                self.pass_sign(row)
                self.standing = item[2][NEXTS[sign]]
                return ("look", row, sign)
            self.standing = item[2][-1]

    def pass_sign(self, row):
        """The row goes on to its next place."""
        place = self.places[row] + 1
        if place == len(self.signs[row]):
            place = self.backs[row]
        self.places[row] = place


def written(content):
    """All signs of a content, each as often as it is written, with the end of one that ends."""
    head, ring = content
    if ring == "":
        return list(head) + ["end"]
    return list(head + ring)


def back_place(content):
    """The place that follows the last one that is written."""
    head, ring = content
    if ring == "":
        return len(head) + 1
    return len(head)


def events(plan, contents, many):
    """The first so many events of the run on these contents, all if they are fewer."""
    need_contents(plan, contents)
    need_many(many)
    course = Course(plan, contents)
    found = []
    while len(found) < many:
        event = course.event()
        found.append(event)
        if event == STOP:
            break
    return found


def whole_run(plan, contents):
    """The pair (first, round) of lists of events: the first ones, and those that come round for ever."""
    need_contents(plan, contents)
    course = Course(plan, contents)
    turn = Turn(course)
    found = []
    while True:
        event = course.event()
        found.append(event)
        if event == STOP:
            return (found, [])
        if turn.is_round():
            many = len(found) - turn.deeds
            return shortest(found[:many], found[many:])


def looked(plan, contents):
    """For each row how many letters are looked at in the whole run, None if ever more."""
    first, ring = whole_run(plan, contents)
    found = [0] * plan.rows
    for event in first:
        if is_letter_look(event):
            found[event[1]] += 1
    for event in ring:
        if is_letter_look(event):
            found[event[1]] = None
    return tuple(found)


def is_letter_look(event):
    """Whether an event is a look at a letter."""
    return event[0] == "look" and event[2] != "end"
