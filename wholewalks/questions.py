"""Questions about words that are read side by side, and their answers."""

from wholewalks.checks import is_between, is_lettered, is_tuple_of
from wholewalks.errors import BadQuestion, NoLot, NoWords
from wholewalks.plans import is_ascending
from wholewalks.readings import many_readings, readings_of
from wholewalks.standings import is_table

FEWEST_ROWS = 2
MOST_ROWS = 4
MOST_LETTERS = 2
MOST_STANDINGS = 8


class Question:
    """A question that is answered by the standing to which words lead."""

    def __init__(self, rows, letters, table):
        if not is_between(FEWEST_ROWS, MOST_ROWS, rows):
            raise BadQuestion("rows")
        if not is_between(1, MOST_LETTERS, letters):
            raise BadQuestion("letters")
        if not is_question_table(rows, letters, table):
            raise BadQuestion("table")
        self.rows = rows
        self.letters = letters
        self.table = table

    def __eq__(self, other):
        return (type(self) is type(other) and self.rows == other.rows and self.letters == other.letters
                and self.table == other.table)


def is_question_table(rows, letters, thing):
    """Whether a thing is the table of a question with so many rows and letters."""
    if not is_table(MOST_STANDINGS, thing):
        return False
    size = many_readings(rows, letters)
    for item in thing:
        if not is_tuple_of(2, item) or not isinstance(item[0], bool) or not is_way(size, len(thing), item[1]):
            return False
    return True


def is_way(size, many, thing):
    """Whether a thing has one of so many standings for each reading, of which there are so many as its size must be."""
    if not is_tuple_of(size, thing):
        return False
    for standing in thing:
        if not is_between(0, many - 1, standing):
            return False
    return True


def is_words(letters, rows, thing):
    """Whether a thing is words of so many rows."""
    if not is_tuple_of(rows, thing):
        return False
    for word in thing:
        if not is_lettered(letters, word):
            return False
    return True


def need_words(question, rows, thing):
    """Raises NoWords unless a thing is words of so many of the question's rows."""
    if not is_words(question.letters, rows, thing):
        raise NoWords()


def is_lot(question, thing):
    """Whether a thing is a lot of the question's rows."""
    return is_ascending(question.rows, thing) and 1 <= len(thing) < question.rows


def need_lot(question, thing):
    """Raises NoLot unless a thing is a lot of the question's rows."""
    if not is_lot(question, thing):
        raise NoLot()


def answer(question, words):
    """The flag of the standing to which words of all rows lead."""
    need_words(question, question.rows, words)
    standing = 0
    for number in readings_of(question.letters, words):
        standing = question.table[standing][1][number - 1]
    return question.table[standing][0]
