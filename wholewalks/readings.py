"""Readings of words side by side, numbered ascending.

A reading has a figure for each row: 0 where the row has ended, and from 1 on its
letter. Reading 0 is none, as all rows have ended; it is numbered along.
"""

from wholewalks.checks import LETTERS


def readings_of(letters, words):
    """The readings that words of so many letters have side by side."""
    return [reading_at(letters, words, place) for place in range(max([len(word) for word in words]))]


def reading_at(letters, words, place):
    """The reading that words have at a place."""
    number = 0
    for word in words:
        number *= letters + 1
        if place < len(word):
            number += 1 + LETTERS.index(word[place])
    return number


def many_readings(rows, letters):
    """How many readings there are, less reading 0."""
    return len(Readings(rows, letters).figures) - 1


class Readings:
    """The readings of so many rows of so many letters; self.ended has for each one the mask of the ended rows."""

    def __init__(self, rows, letters):
        self.rows = rows
        self.letters = letters
        self.figures = [()]
        for _ in range(rows):
            self.figures = [some + (figure,) for some in self.figures for figure in range(letters + 1)]
        self.ended = [sum([1 << row for row in range(rows) if some[row] == 0]) for some in self.figures]

    def words(self, numbers):
        """The words that have these readings."""
        found = [[] for _ in range(self.rows)]
        for number in numbers:
            for row, figure in enumerate(self.figures[number]):
                if figure > 0:
                    found[row].append(LETTERS[figure - 1])
        return tuple(["".join(word) for word in found])

    def within(self, rows, many):
        """For each reading of these rows, so many in all, the number that it adds to a reading of all of them."""
        weights = [1]
        for _ in range(many - 1):
            weights.append(weights[-1] * (self.letters + 1))
        return [sum([figure * weights[many - 1 - row] for figure, row in zip(some, rows)]) for some in self.figures]
