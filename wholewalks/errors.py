"""The errors of wholewalks: each one a WalkError, which is a ValueError."""


class WalkError(ValueError):
    """What all errors of this package are."""


class NoContent(WalkError):
    """A thing is no content."""

    def __init__(self):
        super().__init__()


class NoPlace(WalkError):
    """A thing is no place there."""

    def __init__(self):
        super().__init__()


class BadPlan(WalkError):
    """A part of a plan is not as told."""

    def __init__(self, part):
        self.part = part


class Idle(WalkError):
    """Steps of a plan lead round without a step by a letter."""

    def __init__(self, ring):
        self.ring = ring


class NoPhase(WalkError):
    """A thing is no phase of the plan."""

    def __init__(self):
        super().__init__()


class NoContents(WalkError):
    """A thing is no contents of the plan, the program or the script."""

    def __init__(self):
        super().__init__()


class NoNumber(WalkError):
    """A thing is no number that may stand there."""

    def __init__(self):
        super().__init__()


class OtherPlan(WalkError):
    """Two plans, or a plan and a program, do not go together."""

    def __init__(self):
        super().__init__()


class NoNumbers(WalkError):
    """A thing does not number the rows anew."""

    def __init__(self):
        super().__init__()


class BadProgram(WalkError):
    """A part of a program is not as told."""

    def __init__(self, part):
        self.part = part


class NoBound(WalkError):
    """A program has no depth."""

    def __init__(self):
        super().__init__()


class Over(WalkError):
    """A run is over."""

    def __init__(self):
        super().__init__()


class NoHand(WalkError):
    """A thing is no hand there."""

    def __init__(self):
        super().__init__()


class NothingDone(WalkError):
    """There is nothing to take back."""

    def __init__(self):
        super().__init__()


class BadScript(WalkError):
    """A part of a script is not as told."""

    def __init__(self, part):
        self.part = part


class TooMany(WalkError):
    """More things are needed than are allowed."""

    def __init__(self, most):
        self.most = most


class BadText(WalkError):
    """A text cannot be read."""

    def __init__(self, line):
        self.line = line


class NoDealing(WalkError):
    """A thing is no dealing of the rows."""

    def __init__(self):
        super().__init__()


class NotFree(WalkError):
    """A dealing is not free."""

    def __init__(self):
        super().__init__()


class Free(WalkError):
    """A dealing is free."""

    def __init__(self):
        super().__init__()


class NoRow(WalkError):
    """A thing is no row there."""

    def __init__(self):
        super().__init__()


class BadQuestion(WalkError):
    """A part of a question is not as told."""

    def __init__(self, part):
        self.part = part


class NoWords(WalkError):
    """A thing is no words of the rows."""

    def __init__(self):
        super().__init__()


class NoLot(WalkError):
    """A thing is no lot of the rows."""

    def __init__(self):
        super().__init__()


class NoSorter(WalkError):
    """A thing is no sorter of the lot."""

    def __init__(self):
        super().__init__()


class OtherQuestion(WalkError):
    """A question and a program do not go together."""

    def __init__(self):
        super().__init__()


class NoStanding(WalkError):
    """A thing is no standing there."""

    def __init__(self):
        super().__init__()


class NoLine(WalkError):
    """A thing is no line of the desk."""

    def __init__(self):
        super().__init__()


class NoName(WalkError):
    """There is no plan of this name."""

    def __init__(self, name):
        self.name = name
