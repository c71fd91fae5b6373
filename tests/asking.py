"""Questions for several tests, and what the document tells of them, done once more in the plainest way."""

from itertools import product

from wholewalks.questions import Question

LETTERS = "ab"

# Whether both rows are as long.
Q = Question(2, 1, ((True, (1, 1, 0)), (False, (1, 1, 1))))


def readings(rows, letters):
    """All readings of so many rows, ascending."""
    return [reading for reading in product("-" + LETTERS[:letters], repeat=rows) if set(reading) != {"-"}]


def question_of(rows, letters, start, step, told):
    """The question whose standings are the states that come of start by step(state, reading); told(state) is its flag."""
    order, table = [start], []
    while len(table) < len(order):
        state = order[len(table)]
        nexts = []
        for reading in readings(rows, letters):
            target = step(state, reading)
            if target not in order:
                order.append(target)
            nexts.append(order.index(target))
        table.append((told(state), tuple(nexts)))
    return Question(rows, letters, tuple(table))


def reading_at(words, place):
    return tuple([word[place] if place < len(word) else "-" for word in words])


def answered(question, words):
    """The answer to words of all rows."""
    order = readings(question.rows, question.letters)
    standing = 0
    for place in range(max([len(word) for word in words])):
        standing = question.table[standing][1][order.index(reading_at(words, place))]
    return question.table[standing][0]


def machine_number(question, lot, machine, words):
    """The number that a sorter tells of words."""
    order = readings(len(lot), question.letters)
    standing = 0
    for place in range(max([len(word) for word in words])):
        standing = machine[0][standing][order.index(reading_at(words, place))]
    return machine[1][standing]


def strings(letters, most):
    """All strings of so many letters at most."""
    return ["".join(word) for size in range(most + 1) for word in product(LETTERS[:letters], repeat=size)]


def all_words(rows, letters, most):
    """All words of so many rows, each with so many letters at most."""
    return list(product(strings(letters, most), repeat=rows))


def joined(question, lot, one, other):
    """Words of all rows: those of a lot, and those of the others."""
    found = [None] * question.rows
    rest = [row for row in range(question.rows) if row not in lot]
    for row, word in list(zip(lot, one)) + list(zip(rest, other)):
        found[row] = word
    return tuple(found)


def signature(question, lot, words, others):
    """The answers to words of a lot with each of some words of the other rows."""
    return tuple([answered(question, joined(question, lot, words, other)) for other in others])


def lots(rows):
    """All lots of so many rows."""
    found = [tuple([row for row in range(rows) if mask >> row & 1]) for mask in range(1, 2 ** rows - 1)]
    return sorted(found)


def least_first(words):
    """Words by the number of their letters, then as tuples."""
    return sorted(words, key=lambda some: (sum([len(word) for word in some]), some))


def random_question(rng, rows=None, letters=None, many=None):
    """A question, by chance."""
    rows = rows or rng.randint(2, 3)
    letters = letters or rng.randint(1, 2)
    many = many or rng.randint(1, 5)
    size = len(readings(rows, letters))
    return Question(rows, letters, tuple([(rng.random() < 0.5, tuple([rng.randrange(many) for _ in range(size)]))
                                          for _ in range(many)]))


def random_parts(rng, rows):
    """A parting of so many rows, by chance."""
    marks = [rng.randrange(rows) for _ in range(rows)]
    found = {}
    for row, mark in enumerate(marks):
        found.setdefault(mark, []).append(row)
    return sorted([tuple(part) for part in found.values()])


def sorted_question(rng, rows, letters, parts, most=8):
    """A question that hangs on what small machines tell of each of these parts; with some luck a look ahead of them."""
    while True:
        sizes = [rng.choice((1, 2, 2, 3)) for _ in parts]
        lead = rng.choice((0, 0, 1))
        total = 1
        for size in sizes:
            total *= size
        if total + lead <= most:
            break
    ways = [{(at, reading): rng.randrange(size) for at in range(size) for reading in readings(len(part), letters)}
            for part, size in zip(parts, sizes)]
    flags = {state: rng.random() < 0.5 for state in product(*[range(size) for size in sizes])}
    firsts = {reading: tuple([rng.randrange(size) for size in sizes]) for reading in readings(rows, letters)}
    first_flag = rng.random() < 0.5

    def step(state, reading):
        if state == "first":
            return firsts[reading]
        found = []
        for at, part, way in zip(state, parts, ways):
            some = tuple([reading[row] for row in part])
            found.append(at if set(some) == {"-"} else way[at, some])
        return tuple(found)

    def told(state):
        return first_flag if state == "first" else flags[state]

    return question_of(rows, letters, "first" if lead else (0,) * len(parts), step, told)
