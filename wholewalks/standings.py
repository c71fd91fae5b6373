"""Standings, of which the tables of plans and programs are made."""

from wholewalks.checks import is_between, is_tuple_of, is_word

NEXTS = {"a": 0, "b": 1, "c": 2, "end": -1}


def is_table(most, thing):
    """Whether a thing is a tuple of one to so many things."""
    return isinstance(thing, tuple) and 1 <= len(thing) <= most


def is_item(kind, size, thing):
    """Whether a thing is a tuple of this size that begins with this string."""
    return is_tuple_of(size, thing) and isinstance(thing[0], str) and thing[0] == kind


def is_nexts(letters, many, thing):
    """Whether a thing has one of so many standings for each letter, and one for the end."""
    if not is_tuple_of(letters + 1, thing):
        return False
    for standing in thing:
        if not is_between(0, many - 1, standing):
            return False
    return True


def is_numbered(kind, below, letters, many, thing):
    """Whether a thing is an item of this kind with a number below so much and nexts, as a look is."""
    return is_item(kind, 3, thing) and is_between(0, below - 1, thing[1]) and is_nexts(letters, many, thing[2])


def is_say(many, thing):
    """Whether a thing says a word and goes on to one of so many standings."""
    return is_item("say", 3, thing) and is_word(thing[1]) and is_between(0, many - 1, thing[2])


def is_stop(thing):
    """Whether a thing is a stop."""
    return is_item("stop", 1, thing)


def onward(item):
    """All the standings to which a standing of a plan can lead."""
    if item[0] == "look":
        return item[2]
    if item[0] == "say":
        return (item[2],)
    return ()
