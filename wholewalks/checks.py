"""Checks of single values that many modules need."""

from wholewalks.errors import NoNumber

LETTERS = "abc"
ALPHABET = "abcdefghijklmnopqrstuvwxyz"
DIGITS = "0123456789"
MOST_FIGURES = 9
MOST_EVENTS = 10000


def is_integer(thing):
    """Whether a thing is an integer; a flag is none."""
    return isinstance(thing, int) and not isinstance(thing, bool)


def is_between(low, high, thing):
    """Whether a thing is an integer from low to high."""
    return is_integer(thing) and low <= thing <= high


def is_tuple_of(many, thing):
    """Whether a thing is a tuple of so many."""
    return isinstance(thing, tuple) and len(thing) == many


def is_same(told, thing):
    """Whether a thing is this tuple of integers and strings, flags being no integers."""
    if not is_tuple_of(len(told), thing):
        return False
    for one, other in zip(told, thing):
        if not (type(one) is type(other) and one == other):
            return False
    return True


def is_lettered(letters, thing):
    """Whether a thing is a string of the first so many letters alone."""
    return isinstance(thing, str) and thing.strip(LETTERS[:letters]) == ""


def is_word(thing):
    """Whether a thing is a word that can be said."""
    return isinstance(thing, str) and 1 <= len(thing) <= 8 and thing.strip(ALPHABET) == ""


def is_figures(text):
    """Whether a string is a number as it stands in texts."""
    if not 1 <= len(text) <= MOST_FIGURES or text.strip(DIGITS) != "":
        return False
    return text == "0" or text[0] != "0"


def is_dealing(rows, thing):
    """Whether a thing deals so many rows to hands, none of which is left out."""
    if not is_tuple_of(rows, thing):
        return False
    for hand in thing:
        if not is_between(0, rows - 1, hand):
            return False
    return len(set(thing)) == max(thing) + 1


def need_many(many):
    """Raises NoNumber unless so many events can be asked for."""
    if not is_between(0, MOST_EVENTS, many):
        raise NoNumber()
