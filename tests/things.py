"""Plans, programs and odd things that several tests need."""

import random

from wholewalks.errors import BadPlan, BadScript, Idle, NoContent, WalkError
from wholewalks.joining import behind
from wholewalks.plans import Plan
from wholewalks.programs import Program
from wholewalks.runs import Run
from wholewalks.scripts import Script

STOP = ("stop",)
LETTERS = "abc"

T = Plan(2, 1, (("look", 0, (1, 2)), ("look", 1, (0, 2)), ("stop",)))
U = Plan(2, 2, (("look", 0, (0, 1, 1)), ("look", 1, (1, 2, 2)), ("look", 0, (2, 2, 3)),
                ("look", 1, (3, 3, 4)), ("stop",)))
P = Program(2, 1, (0, 1), 1, (("begin", 0, (1, 4)), ("begin", 1, (2, 4)), ("on", 0, (3, 4)),
                              ("on", 1, (2, 4)), ("stop",)))
C = (("aa", ""), ("a", ""))
D = (("", "a"), ("", "a"))


def nested(thing, many, kind):
    """A thing so many deep in tuples or lists."""
    for _ in range(many):
        thing = kind([thing])
    return thing


def odd_things():
    """Things of all built-in kinds but floats, complex numbers and sets, and of the package; none is of use anywhere."""
    return [
        None, True, False, Ellipsis, NotImplemented, len, int, Plan, object(), range(2), range(0), slice(1), iter([]),
        zip(), memoryview(b"ab"), bytearray(b"a"), b"", b"a", b"ab", {}, {"a": 1}, {0: "a"}, {"a": 1}.keys(),
        [], [0], [0, 1], ["a", ""], [["a", ""]], ("a",), ("a", "", ""), ("a", ["b"]), ("a", None), (b"a", b""),
        ("look",), ("look", 0), ("say", "a"), (None,), (True,), (0, True), (True, ()), (0, [0]), ((), 0),
        ("A", ""), ("a", "d"), ("a ", ""), ("", "end"), ("a\n", ""), "end", "stop", "look",
        -1, -(10 ** 39), 10 ** 39 + 7, (-1,), (10 ** 39, 10 ** 39), 10 ** 40 - 1,
        nested((), 39, tuple), nested([], 39, list), nested("a", 40, tuple), tuple(range(9999)), list(range(9999)),
        "a" * 9999, T, P, NoContent(), BadPlan("rows"), Idle(((0, ()),)), WalkError, [T], (T, P), (P,),
        Run(P, C), Script(1, 1, (0,), ((),)), (Run(P, D), 0), [[True, (T,)], {1: (2,)}], ("all", ()), ("case", 0, 1, 2, 3),
    ]


def sames(content, most=60):
    """The same content, written in other ways, none with a head or a round of more letters than most."""
    head, ring = content
    found = [content]
    if ring == "":
        return found
    for turn in range(len(ring) + 2):
        more = (ring * 3)[:turn]
        rest = ring[turn % len(ring):] + ring[:turn % len(ring)]
        for times in (1, 2, 3):
            if len(head) + turn <= most and len(rest) * times <= most:
                found.append((head + more, rest * times))
    return found


def random_word(rng, letters, most):
    """A string of so many letters at most."""
    return "".join([rng.choice(LETTERS[:letters]) for _ in range(rng.randint(0, most))])


def random_contents(rng, rows, letters, head=4, ring=3):
    """Contents for so many rows."""
    return tuple([(random_word(rng, letters, head), random_word(rng, letters, ring)) for _ in range(rows)])


def random_table(rng, rows, letters, many):
    """A table of so many standings, which may lead round; in half of them it stops at the last one alone."""
    stops = many > 1 and rng.random() < 0.5
    inner = many - 1 if stops else many
    table = []
    for _ in range(inner):
        kind = rng.random()
        if kind < 0.8 or (stops and kind > 0.9):
            nexts = [rng.randrange(inner) for _ in range(letters + 1)]
            if stops and rng.random() < 0.6:
                nexts[-1] = inner
            table.append(("look", rng.randrange(rows), tuple(nexts)))
        elif kind < 0.9:
            table.append(("say", rng.choice(("x", "y")), rng.randrange(inner)))
        else:
            table.append(STOP)
    return tuple(table) + (STOP,) * (many - inner)


def random_plan(rng, rows=None, letters=None, many=None):
    """A plan, by chance."""
    rows = rows or rng.randint(1, 3)
    letters = letters or rng.randint(1, 3)
    while True:
        try:
            return Plan(rows, letters, random_table(rng, rows, letters, many or rng.randint(1, 7)))
        except Idle:
            pass


def random_program(rng, rows=None, letters=None, bound=True):
    """A program, by chance; its depth is None if there is to be no bound."""
    rows = rows or rng.randint(1, 3)
    letters = letters or rng.randint(1, 2)
    many = rng.randint(1, 8)
    hands = rng.randint(1, rows)
    dealing = list(range(hands)) + [rng.randrange(hands) for _ in range(rows - hands)]
    rng.shuffle(dealing)
    depth = rng.randint(1, 4)
    if not bound:
        dealing = [0] * rows
        hands = 1
        depth = None
    table = []
    for _ in range(many):
        kind = rng.random()
        nexts = tuple([rng.randrange(many) for _ in range(letters + 1)])
        if kind < 0.35:
            table.append(("begin", rng.randrange(rows), nexts))
        elif kind < 0.7:
            table.append(("on", rng.randrange(hands), nexts))
        elif kind < 0.85:
            table.append(("leave", rng.randrange(hands), rng.randrange(many)))
        elif kind < 0.95:
            table.append(("say", rng.choice(("x", "y")), rng.randrange(many)))
        else:
            table.append(STOP)
    return Program(rows, letters, tuple(dealing), depth, tuple(table))


def seeded(number):
    """Chance that is the same each time."""
    return random.Random(number)


def lasting_program(rng, rows, letters, bound=True, most=10):
    """A program, by chance, in which no on or leave lacks an open walk: each standing knows how many there are at least."""
    many = rng.randint(2, most)
    hands = rng.randint(1, rows) if bound else 1
    dealing = list(range(hands)) + [rng.randrange(hands) for _ in range(rows - hands)]
    rng.shuffle(dealing)
    least = [[rng.choice((0, 0, 1, 1, 2)) for _ in range(hands)] for _ in range(many)]
    least[0] = [0] * hands

    def goes(counts):
        fits = [at for at in range(many) if all(a <= b for a, b in zip(least[at], counts))]
        return rng.choice(fits)

    def changed(counts, hand, by):
        return [count + by if k == hand else count for k, count in enumerate(counts)]

    table = []
    for counts in least:
        ready = [hand for hand in range(hands) if counts[hand] > 0]
        kind = rng.random()
        if ready and kind < 0.75:
            hand = rng.choice(ready)
            less = changed(counts, hand, -1)
            if kind < 0.5:
                table.append(("on", hand, tuple([goes(counts) for _ in range(letters)] + [goes(less)])))
            else:
                table.append(("leave", hand, goes(less)))
        elif kind < 0.92:
            row = rng.randrange(rows)
            more = changed(counts, dealing[row], 1)
            table.append(("begin", row, tuple([goes(more) for _ in range(letters)] + [goes(counts)])))
        elif kind < 0.97:
            table.append(("say", rng.choice(("x", "y")), goes(counts)))
        else:
            table.append(STOP)
    depth = rng.randint(2, 6) if bound else None
    return Program(rows, letters, tuple(dealing), depth, tuple(table))


def random_block(rng, dealing, hand, letters, most, deep=1, around=0, boxes=2, values=3):
    """A block of a hand, by chance."""
    rows = [row for row, other in enumerate(dealing) if other == hand]
    block = []
    for _ in range(rng.randint(0 if deep > 1 else 1, most)):
        kind = rng.random()
        if kind < 0.3 and deep < 5:
            inner = random_block(rng, dealing, hand, letters, most, deep + 1, around + 1, boxes, values)
            block.append(("each", rng.choice(rows), rng.randrange(boxes), inner))
        elif kind < 0.5 and deep < 5:
            inner = [random_block(rng, dealing, hand, letters, most - 1, deep + 1, around, boxes, values) for _ in range(2)]
            block.append(("if", rng.randrange(boxes), rng.randrange(values), inner[0], inner[1]))
        elif kind < 0.6:
            block.append(("set", rng.randrange(boxes), rng.randrange(values)))
        elif kind < 0.72 and around > 0:
            block.append(("leave", rng.randint(1, around)))
        elif kind < 0.86 and max(dealing) > 0:
            block.append(("over", rng.choice([other for other in range(max(dealing) + 1) if other != hand])))
        elif kind < 0.97:
            block.append(("say", rng.choice(("x", "y", "z"))))
        else:
            block.append(STOP)
    return tuple(block)


def random_dealing(rng, rows, hands=None):
    """A dealing of so many rows, by chance."""
    hands = hands or rng.randint(1, rows)
    dealing = list(range(hands)) + [rng.randrange(hands) for _ in range(rows - hands)]
    rng.shuffle(dealing)
    return tuple(dealing)


def random_script(rng, rows=None, letters=None, hands=None, most=4):
    """A script, by chance."""
    while True:
        some = rows or rng.randint(1, 3)
        dealing = random_dealing(rng, some, hands)
        many = letters or rng.randint(1, 3)
        blocks = tuple([random_block(rng, dealing, hand, many, most) for hand in range(max(dealing) + 1)])
        try:
            return Script(some, many, dealing, blocks)
        except BadScript:
            pass


def ladder_plan(rng, dealing, letters, rungs, words=True, full=False):
    """A plan of rungs: each goes round over rows of unlike hands, of all if full, and on to the next by some letter or end."""
    hands = max(dealing) + 1
    firsts, lots = [], []
    at = 0
    for _ in range(rungs):
        lot = [rng.choice([row for row, hand in enumerate(dealing) if hand == other])
               for other in rng.sample(range(hands), hands if full else rng.randint(1, hands))]
        firsts.append(at)
        lots.append(lot)
        at += len(lot) + (1 if words else 0)
    firsts.append(at)
    table = []
    for number, lot in enumerate(lots):
        for place, row in enumerate(lot):
            here = firsts[number] + (1 if words else 0)
            within = here + (place + 1) % len(lot)
            onward = firsts[number + 1]
            ways = [within] + [rng.choice((within, here, onward)) for _ in range(letters - 1)]
            rng.shuffle(ways)
            if place == 0 and words:
                table.append(("say", rng.choice(("x", "y")), here))
            table.append(("look", row, tuple(ways) + (rng.choice((onward, at)),)))
    return Plan(len(dealing), letters, tuple(table) + (STOP,))


def talking_plan(many):
    """A plan of two rows that says x so many times, and stops; it is a returned one, of any size."""
    table = tuple([("say", "x", at + 1) for at in range(min(many, 29))]) + (STOP,)
    plan = Plan(2, 1, table)
    if many > 29:
        half = many // 2
        plan = behind(talking_plan(half), talking_plan(many - half))
    return plan


def talking_program(many, dealing, depth, rest):
    """A program of two rows that says x so many times, and then does as the rest tells, numbered from there on."""
    moved = []
    for item in rest:
        if item[0] in ("begin", "on"):
            item = item[:2] + (tuple([at + many for at in item[2]]),)
        elif item[0] != "stop":
            item = item[:2] + (item[2] + many,)
        moved.append(item)
    return Program(2, 1, dealing, depth, tuple([("say", "x", at + 1) for at in range(many)]) + tuple(moved))
