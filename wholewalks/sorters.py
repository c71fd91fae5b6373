"""Sorters: machines that read words of a lot side by side, and tell numbers of them."""

from wholewalks.checks import is_integer, is_tuple_of
from wholewalks.errors import NoSorter
from wholewalks.halves import Halves
from wholewalks.profiles import Profiles
from wholewalks.questions import is_way, need_lot, need_words
from wholewalks.readings import many_readings, readings_of
from wholewalks.sortings import MOST_PROFILES, Sorting, words_of_numbers


def is_machine(question, lot, thing):
    """Whether a thing is a sorter of a lot, whatever its numbers tell."""
    if not is_tuple_of(2, thing) or not isinstance(thing[0], tuple) or not isinstance(thing[1], tuple):
        return False
    nexts, numbers = thing
    if len(numbers) == 0 or len(nexts) != len(numbers):
        return False
    for number in numbers:
        if not is_integer(number) or number < 0:
            return False
    size = many_readings(len(lot), question.letters)
    for way in nexts:
        if not is_way(size, len(nexts), way):
            return False
    return True


def sorted_by(question, lot, sorter, words):
    """The number of the standing to which a sorter comes with these words."""
    need_lot(question, lot)
    if not is_machine(question, lot, sorter):
        raise NoSorter()
    need_words(question, len(lot), words)
    nexts, numbers = sorter
    standing = 0
    for reading in readings_of(question.letters, words):
        standing = nexts[standing][reading - 1]
    return numbers[standing]


def sorter(question, lot):
    """A sorter whose numbers are the same exactly for words of one sort, None if there are endlessly many sorts."""
    need_lot(question, lot)
    profiles = Profiles(Halves(question, lot), MOST_PROFILES)
    if profiles.far is not None:
        return None
    return Sorting(profiles, MOST_PROFILES).machine()


def is_sorter(question, lot, thing):
    """Whether a thing is a sorter in which words with one number are of one sort."""
    need_lot(question, lot)
    return is_machine(question, lot, thing) and words_of_numbers(question, lot, thing) is not None
