"""Sorts of words of a lot: two are of one sort if the answers are the same, whatever the words of the other rows."""

from wholewalks.checks import is_between
from wholewalks.errors import NoNumber
from wholewalks.halves import Halves
from wholewalks.leastwords import LeastWords
from wholewalks.profiles import Profiles
from wholewalks.questions import need_lot, need_words
from wholewalks.rests import Rests

MOST_PROFILES = 3000
MOST_WORDS = 40


def parted(question, lot, first, second):
    """Words of the other rows with which the answers are unlike, None if both words are of one sort."""
    need_lot(question, lot)
    need_words(question, len(lot), first)
    need_words(question, len(lot), second)
    halves = Halves(question, lot)
    rests = Rests(halves)
    one = rests.of_words(first)
    other = rests.of_words(second)
    readings = rests.parting(one, other)
    if readings is None:
        return None
    return halves.others.words(readings)


def sorts_many(question, lot):
    """How many sorts there are, None if there are endlessly many."""
    need_lot(question, lot)
    profiles = Profiles(Halves(question, lot), MOST_PROFILES)
    if profiles.far is not None:
        return None
    return len(profiles.sorts)


def some_sorts(question, lot, many):
    """So many words, each two of unlike sorts."""
    need_lot(question, lot)
    if not is_between(0, MOST_WORDS, many):
        raise NoNumber()
    words = Profiles(Halves(question, lot), MOST_PROFILES).some_words(many)
    if len(words) < many:
        raise NoNumber()
    return words


def least_word(question, lot, words):
    """The words of this sort that have the fewest letters in all, the least of these."""
    need_lot(question, lot)
    need_words(question, len(lot), words)
    return LeastWords(Halves(question, lot), words).found()
