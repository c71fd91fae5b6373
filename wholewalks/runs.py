"""Runs of programs that are led deed by deed, and taken back."""

from wholewalks.checks import is_between
from wholewalks.contents import letters_within, need_contents
from wholewalks.errors import NoHand, NothingDone, Over
from wholewalks.walking import ENDS, Walking


class Run:
    """A run of a program on contents.

    self.trail has for each deed that is not taken back what it may have
    changed, as it was before.
    """

    def __init__(self, program, contents):
        need_contents(program, contents)
        self.walking = Walking(program, contents, False)
        self.trail = []
        self.is_over = False

    def deed(self):
        """Does what the standing tells, and returns its event, None if it has none."""
        if self.is_over:
            raise Over()
        self.trail.append(self.walking.before())
        event = self.walking.deed()
        self.is_over = event is not None and event[0] in ENDS
        return event

    def standing(self):
        """The standing, also where the run is over."""
        return self.walking.standing

    def walks(self, hand):
        """The pairs (row, place) of the open walks of a hand, the outermost first."""
        if not is_between(0, len(self.walking.walks) - 1, hand):
            raise NoHand()
        return tuple(self.walking.walks[hand])

    def looked(self):
        """For each row how many letters were looked at so far, each once."""
        walking = self.walking
        return tuple([letters_within(content, far) for content, far in zip(walking.contents, walking.far)])

    def deeds(self):
        """How many deeds were done and are not taken back."""
        return len(self.trail)

    def back(self):
        """Takes back the last deed that is not taken back."""
        if not self.trail:
            raise NothingDone()
        self.walking.put_back(self.trail.pop())
        self.is_over = False

    def copy(self):
        """Another run that goes on apart, and can go back likewise."""
        other = Run(self.walking.program, self.walking.contents)
        other.walking = self.walking.copied()
        other.trail = list(self.trail)
        other.is_over = self.is_over
        return other
