"""Contents: rows of letters that end, or come round for ever."""

from wholewalks.checks import LETTERS, is_integer, is_lettered, is_tuple_of
from wholewalks.errors import NoContent, NoContents, NoPlace
from wholewalks.rounds import shortest


def is_content(thing):
    """Whether a thing is a content."""
    return is_content_of(len(LETTERS), thing)


def is_content_of(letters, thing):
    """Whether a thing is a content of the first so many letters alone."""
    return is_tuple_of(2, thing) and is_lettered(letters, thing[0]) and is_lettered(letters, thing[1])


def need_content(thing):
    """Raises NoContent unless a thing is a content."""
    if not is_content(thing):
        raise NoContent()


def is_contents(plan, thing):
    """Whether a thing is contents of a plan, a program or a script."""
    if not is_tuple_of(plan.rows, thing):
        return False
    for content in thing:
        if not is_content_of(plan.letters, content):
            return False
    return True


def need_contents(plan, thing):
    """Raises NoContents unless a thing is contents of a plan, a program or a script."""
    if not is_contents(plan, thing):
        raise NoContents()


def sign(content, place):
    """The letter at a place, or "end" behind the end."""
    need_content(content)
    if not is_integer(place) or place < 0:
        raise NoPlace()
    return sign_at(content, place)


def sign_at(content, place):
    """The same for what surely is a content and a place."""
    head, ring = content
    if place < len(head):
        return head[place]
    if ring == "":
        return "end"
    return ring[(place - len(head)) % len(ring)]


def least_place(content, place):
    """The least place from which on the signs are written just as from this one on."""
    head, ring = content
    if ring == "" or place < len(head):
        return place
    return len(head) + (place - len(head)) % len(ring)


def letters_within(content, many):
    """How many of the first so many places have letters."""
    head, ring = content
    if ring == "":
        return min(len(head), many)
    return many


def same_signs(content, second):
    """Whether two contents have the same signs at all places."""
    return least_content(content) == least_content(second)


def least_content(content):
    """The content with the same signs that has the shortest round, then the shortest head."""
    need_content(content)
    return shortest(content[0], content[1])
