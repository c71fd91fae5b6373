"""Questions whose rows are parted in two: a lot, and the others."""

from wholewalks.readings import Readings


class Halves:
    """A question, and a lot of its rows.

    self.ones are the readings of the lot, self.others those of the other rows;
    self.steps has for each standing, each reading of the lot and each one of the
    others the next standing; it stays where it is if all rows have ended.
    """

    def __init__(self, question, lot):
        self.lot = lot
        self.rest = tuple([row for row in range(question.rows) if row not in lot])
        self.flags = [flag for flag, _ in question.table]
        self.ones = Readings(len(lot), question.letters)
        self.others = Readings(len(self.rest), question.letters)
        ones = self.ones.within(lot, question.rows)
        others = self.others.within(self.rest, question.rows)
        self.steps = []
        for standing, item in enumerate(question.table):
            nexts = (standing,) + item[1]
            self.steps.append([[nexts[one + other] for other in others] for one in ones])
        self.full = (1 << len(self.rest)) - 1

    def behind(self, mask):
        """For each reading of the others whether it may follow where those of a mask have ended."""
        return [ended & mask == mask for ended in self.others.ended]
