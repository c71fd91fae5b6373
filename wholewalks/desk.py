"""A desk at which plans are led by lines."""

from wholewalks.alikes import alike
from wholewalks.checks import is_figures, is_word
from wholewalks.errors import NoLine, NoName, NothingDone
from wholewalks.hands import fewest_hands
from wholewalks.late import late_hands
from wholewalks.once import crosses, fewest_once
from wholewalks.pieces import is_free, web
from wholewalks.reading import content_of, numbers_of, read_plan
from wholewalks.running import events

ALONE = ("names", "undo")
OF_ONE = ("drop", "web", "crosses", "fewest", "once", "late")


def form_of(line):
    """What a line tells, a triple (kind, names, rest), None if it has none of the forms."""
    if not isinstance(line, str) or "\n" in line:
        return None
    words = line.split(" ")
    kind = words[0]
    if kind in ALONE and len(words) == 1:
        return (kind, [], None)
    if len(words) == 1 or not is_word(words[1]):
        return None
    if kind in OF_ONE and len(words) == 2:
        return (kind, words[1:], None)
    if kind == "alike" and len(words) == 3 and is_word(words[2]):
        return (kind, words[1:], None)
    rest = None
    if kind == "plan":
        rest = line[len("plan ") + len(words[1]) + 1:] or None
    if kind == "free" and len(words) == 3:
        rest = numbers_of(words[2].split(","))
    if kind == "run" and len(words) > 3:
        rest = run_of(words[2], words[3:])
    if rest is None:
        return None
    return (kind, words[1:2], rest)


def run_of(figures, texts):
    """The number and the contents of a run, None if some of it has another form."""
    contents = tuple([content_of(text) for text in texts])
    if not is_figures(figures) or None in contents:
        return None
    return (int(figures), contents)


def in_one_line(words):
    """Words with blanks between, or that there are none."""
    if len(words) == 0:
        return "none"
    return " ".join(words)


def pairs_line(pairs):
    """The line of pairs of rows."""
    return in_one_line([str(one) + "-" + str(other) for one, other in pairs])


def event_word(event):
    """How an event of a plan is told."""
    if event[0] == "look":
        return str(event[1]) + ":" + event[2]
    if event[0] == "say":
        return event[1] + "!"
    return event[0]


def flag_word(flag):
    """How a flag is told."""
    if flag:
        return "yes"
    return "no"


def told_of(kind, plans, rest):
    """What is told of plans."""
    plan = plans[0]
    if kind == "web":
        return pairs_line(web(plan))
    if kind == "crosses":
        return pairs_line(crosses(plan))
    if kind == "fewest":
        return str(fewest_hands(plan))
    if kind == "once":
        return str(fewest_once(plan))
    if kind == "late":
        return str(late_hands(plan))
    if kind == "free":
        return flag_word(is_free(plan, rest))
    if kind == "alike":
        return flag_word(alike(plan, plans[1]))
    return in_one_line([event_word(event) for event in events(plan, rest[1], rest[0])])


class Desk:
    """Plans with names.

    self.trail has for each line that can be taken back the name of which it is,
    and the plan that had this name before, None if there was none.
    """

    def __init__(self):
        self.plans = {}
        self.trail = []

    def tell(self, line):
        """Does a line, and returns what it tells."""
        form = form_of(line)
        if form is None:
            raise NoLine()
        kind, names, rest = form
        if kind == "undo":
            return self.undo()
        if kind == "names":
            return in_one_line(sorted(self.plans))
        if kind == "plan":
            return self.keep(names[0], read_plan(rest.replace("|", "\n")))
        plans = [self.named(name) for name in names]
        if kind == "drop":
            return self.keep(names[0], None)
        return told_of(kind, plans, rest)

    def named(self, name):
        """The plan of a name."""
        if name not in self.plans:
            raise NoName(name)
        return self.plans[name]

    def keep(self, name, plan):
        """A plan has this name from now on; none has it if it is None."""
        self.trail.append((name, self.plans.get(name)))
        self.put(name, plan)
        return "ok"

    def put(self, name, plan):
        """The same, but it cannot be taken back."""
        if plan is None:
            self.plans.pop(name)
        else:
            self.plans[name] = plan

    def undo(self):
        """Takes back the last line that can be taken back."""
        if not self.trail:
            raise NothingDone()
        name, plan = self.trail.pop()
        self.put(name, plan)
        return "ok"

    def undoable(self):
        """How many lines can be taken back."""
        return len(self.trail)
