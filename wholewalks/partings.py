"""Partings of the rows of a question: what is asked hangs on finitely many sorts of each part."""

from wholewalks.checks import is_tuple_of
from wholewalks.errors import TooMany
from wholewalks.halves import Halves
from wholewalks.plans import is_ascending
from wholewalks.profiles import Profiles
from wholewalks.questions import MOST_ROWS, answer, is_lot
from wholewalks.sorters import is_machine
from wholewalks.sortings import MOST_PROFILES, Sorting, words_of_numbers

MOST_KEYS = 100000


def has_few_sorts(question, lot, most):
    """Whether a lot has finitely many sorts; so many profiles may be needed at most.

    The other rows have just then, too, so the fewer of both are asked.
    """
    others = tuple([row for row in range(question.rows) if row not in lot])
    if len(others) < len(lot):
        lot = others
    return Profiles(Halves(question, lot), most).far is None


def finest(question):
    """The finest parting of the rows: all lots with finitely many sorts are some of its parts put together."""
    return finest_within(question, MOST_PROFILES)


def finest_within(question, most):
    """The same, if no more than so many profiles of a lot are needed."""
    parts = [tuple(range(question.rows))]
    for lot in small_lots(question.rows):
        cut = parts_cut(parts, lot)
        if len(cut) > len(parts) and has_few_sorts(question, lot, most):
            parts = cut
    return tuple(sorted(parts))


def small_lots(rows):
    """Lots one of which, or the others of one, is each lot, those of one row first: they need fewer profiles."""
    lots = [(row,) for row in range(rows)]
    if rows == MOST_ROWS:
        lots.extend([(0, row) for row in range(1, rows)])
    return lots


def parts_cut(parts, lot):
    """The parts, each cut in two where some of its rows are in the lot, and some are not."""
    found = []
    for part in parts:
        within = tuple([row for row in part if row in lot])
        apart = tuple([row for row in part if row not in lot])
        found.extend([some for some in (within, apart) if some])
    return found


def is_parting(question, thing):
    """Whether a thing is a parting of the question's rows."""
    if not isinstance(thing, tuple):
        return False
    rows = []
    for part in thing:
        if not is_ascending(question.rows, part) or len(part) == 0:
            return False
        rows.extend(part)
    return sorted(rows) == list(range(question.rows)) and list(thing) == sorted(thing)


def is_answered(question, thing):
    """Whether a thing is a parting in each part of which that is a lot there are finitely many sorts."""
    if not is_parting(question, thing):
        return False
    for part in thing:
        if is_lot(question, part) and not has_few_sorts(question, part, MOST_PROFILES):
            return False
    return True


def boxes(question):
    """The finest parting, a sorter for each part, and the answers that their numbers give; None if it has one part."""
    parting = finest(question)
    if len(parting) == 1:
        return None
    machines = []
    words = []
    for part in parting:
        profiles = Profiles(Halves(question, part), MOST_PROFILES)
        machines.append(Sorting(profiles, MOST_PROFILES).machine())
        words.append(dict(enumerate(profiles.some_words(len(profiles.sorts)))))
    if many_tuples(words) > MOST_KEYS:
        raise TooMany(MOST_PROFILES)
    table = {}
    for numbers in tuples_of(words):
        table[numbers] = answer_of(question, parting, words, numbers)
    return (parting, tuple(machines), table)


def many_tuples(dicts):
    """How many tuples of keys there are, one of each dict."""
    many = 1
    for keys in dicts:
        many *= len(keys)
    return many


def tuples_of(dicts):
    """All tuples of keys, one of each dict."""
    found = [()]
    for keys in dicts:
        found = [some + (key,) for some in found for key in keys]
    return found


def answer_of(question, parting, words, numbers):
    """The answer to the words that have these numbers in the parts."""
    found = [""] * question.rows
    for part, known, number in zip(parting, words, numbers):
        for row, word in zip(part, known[number]):
            found[row] = word
    return answer(question, tuple(found))


def is_boxes(question, thing):
    """Whether a thing is a parting of two parts or more, a sorter for each, and the answers that their numbers give."""
    if not is_tuple_of(3, thing) or not is_parting(question, thing[0]) or len(thing[0]) == 1:
        return False
    parting, machines, table = thing
    if not is_tuple_of(len(parting), machines) or not isinstance(table, dict):
        return False
    for part, machine in zip(parting, machines):
        if not is_machine(question, part, machine):
            return False
    return is_box_table(machines, table) and answers_all(question, parting, machines, table)


def is_box_table(machines, thing):
    """Whether a dict has a flag for each tuple of numbers of these sorters, and nothing else."""
    known = [{number: True for number in numbers} for _, numbers in machines]
    if len(thing) != many_tuples(known):
        return False
    for key, flag in thing.items():
        if not is_tuple_of(len(known), key) or not isinstance(flag, bool):
            return False
        for number, numbers in zip(key, known):
            if number not in numbers:
                return False
    return True


def answers_all(question, parting, machines, table):
    """Whether the table has the answer for all words, by the numbers that the sorters tell of them."""
    words = []
    for part, machine in zip(parting, machines):
        known = words_of_numbers(question, part, machine)
        if known is None:
            return False
        words.append(known)
    for numbers in tuples_of(words):
        if table[numbers] != answer_of(question, parting, words, numbers):
            return False
    return True
