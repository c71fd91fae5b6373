"""What the document tells, done once more in the plainest way, to be held against the program."""

STOP = ("stop",)
LETTERS = "abc"


def sign(content, place):
    head, ring = content
    text = head + ring * (place + 1) if ring else head
    return text[place] if place < len(text) else "end"


def run_events(plan, contents, many):
    """The first so many events of a plan."""
    found, standing, counts, ended = [], 0, [0] * plan.rows, set()
    while len(found) < many:
        item = plan.table[standing]
        if item[0] == "stop":
            found.append(STOP)
            break
        if item[0] == "say":
            found.append(("say", item[1]))
            standing = item[2]
        elif item[1] in ended:
            standing = item[2][-1]
        else:
            row = item[1]
            letter = sign(contents[row], counts[row])
            found.append(("look", row, letter))
            if letter == "end":
                ended.add(row)
                standing = item[2][-1]
            else:
                counts[row] += 1
                standing = item[2][LETTERS.index(letter)]
    return found


def phase_steps(plan, phase):
    """The steps from a phase."""
    standing, ended = phase
    item = plan.table[standing]
    if item[0] == "stop":
        return []
    if item[0] == "say":
        return [(None, (item[2], ended))]
    if item[1] in ended:
        return [(None, (item[2][-1], ended))]
    found = [(LETTERS[k], (item[2][k], ended)) for k in range(plan.letters)]
    return found + [("end", (item[2][-1], tuple(sorted(ended + (item[1],)))))]


def all_phases(plan):
    """All phases of a plan."""
    found, queue = {(0, ())}, [(0, ())]
    while queue:
        for _, target in phase_steps(plan, queue.pop()):
            if target not in found:
                found.add(target)
                queue.append(target)
    return sorted(found)


def is_ring(rows, letters, table, ring):
    """Whether a ring is one that Idle may tell, of the parts of a plan."""

    class Parts:
        pass

    plan = Parts()
    plan.rows, plan.letters, plan.table = rows, letters, table
    known = all_phases(plan)
    if not isinstance(ring, tuple) or len(ring) == 0:
        return False
    for at, phase in enumerate(ring):
        target = ring[(at + 1) % len(ring)]
        if phase not in known or target not in [to for sign, to in phase_steps(plan, phase) if sign in (None, "end")]:
            return False
    return True


def behaviours(plan, deep):
    """For each phase a number, the same for two phases if nothing tells them apart in so many events."""
    known = all_phases(plan)
    numbers = {phase: 0 for phase in known}
    for _ in range(deep):
        names = {}
        fresh = {}
        for phase in known:
            at = phase
            while plan.table[at[0]][0] == "look" and plan.table[at[0]][1] in at[1]:
                at = phase_steps(plan, at)[0][1]
            name = (plan.table[at[0]][:2], tuple([numbers[to] for _, to in phase_steps(plan, at)]))
            fresh[phase] = names.setdefault(name, len(names))
        numbers = fresh
    return numbers


def cleaned(plan):
    """The table of the clean plan."""
    numbers = behaviours(plan, 2 * len(all_phases(plan)) + 2)
    order, table = [(0, ())], []
    while len(table) < len(order):
        at = order[len(table)]
        while plan.table[at[0]][0] == "look" and plan.table[at[0]][1] in at[1]:
            at = phase_steps(plan, at)[0][1]
        targets = []
        for _, to in phase_steps(plan, at):
            classes = [numbers[phase] for phase in order]
            if numbers[to] not in classes:
                order.append(to)
                classes.append(numbers[to])
            targets.append(classes.index(numbers[to]))
        item = plan.table[at[0]]
        if item[0] == "look":
            table.append(("look", item[1], tuple(targets)))
        else:
            table.append(item[:2] + tuple(targets))
    return tuple(table)


class Walk:
    """A run of a program, as the document tells it."""

    def __init__(self, program, contents, once=False):
        self.program, self.contents, self.once = program, contents, once
        self.standing, self.seen, self.begun = 0, set(), set()
        self.open = {hand: [] for hand in program.dealing}

    def look(self, hand, row, place, nexts):
        letter = sign(self.contents[row], place)
        if letter == "end":
            self.standing = nexts[-1]
        else:
            self.open[hand].append((row, place))
            self.standing = nexts[LETTERS.index(letter)]
        if (row, place) in self.seen:
            return None
        self.seen.add((row, place))
        return ("look", row, letter)

    def deed(self):
        item = self.program.table[self.standing]
        if item[0] == "stop":
            return STOP
        if item[0] == "say":
            self.standing = item[2]
            return ("say", item[1])
        if item[0] == "begin":
            hand = self.program.dealing[item[1]]
            if self.once and item[1] in self.begun:
                return ("again", item[1])
            if len(self.open[hand]) == self.program.depth:
                return ("deep", hand)
            self.begun.add(item[1])
            return self.look(hand, item[1], 0, item[2])
        if not self.open[item[1]]:
            return ("none", item[1])
        row, place = self.open[item[1]].pop()
        if item[0] == "leave":
            self.standing = item[2]
            return None
        return self.look(item[1], row, place + 1, item[2])


def walk_events(program, contents, many, once=False, quiet=4000):
    """The first so many events of a program; one that has none in so many deeds is idle."""
    walk, found, silent = Walk(program, contents, once), [], 0
    while len(found) < many:
        event = walk.deed()
        if event is None:
            silent += 1
            if silent < quiet:
                continue
            event = ("idle",)
        silent = 0
        found.append(event)
        if event[0] not in ("look", "say"):
            break
    return found


def letters_seen(program, contents, deeds):
    """For each row the letters looked at in so many deeds."""
    walk = Walk(program, contents)
    for _ in range(deeds):
        event = walk.deed()
        if event is not None and event[0] not in ("look", "say"):
            break
    found = [0] * program.rows
    for row, place in walk.seen:
        if sign(contents[row], place) != "end":
            found[row] += 1
    return found


class Stopped(Exception):
    """A script has stopped."""


class Left(Exception):
    """A leave goes out of an each; outward tells how many eaches more."""

    def __init__(self, outward):
        self.outward = outward


class ScriptPlay:
    """A script as the document tells it: each hand is a generator, which yields events, and hands over to others."""

    def __init__(self, script, contents):
        self.script, self.contents = script, contents
        self.boxes = [0] * 4
        self.seen = set()
        self.hands = [self.own_block(block) for block in script.blocks]

    def own_block(self, block):
        yield from self.block(block)
        yield STOP

    def block(self, block):
        for statement in block:
            kind = statement[0]
            if kind == "say":
                yield ("say", statement[1])
            elif kind == "set":
                self.boxes[statement[1]] = statement[2]
            elif kind == "if":
                yield from self.block(statement[3] if self.boxes[statement[1]] == statement[2] else statement[4])
            elif kind == "stop":
                yield STOP
            elif kind == "leave":
                raise Left(statement[1])
            elif kind == "over":
                yield ("over", statement[1])
            else:
                try:
                    yield from self.each(statement[1], statement[2], statement[3])
                except Left as left:
                    if left.outward > 1:
                        raise Left(left.outward - 1)

    def each(self, row, box, block):
        place = 0
        while True:
            letter = sign(self.contents[row], place)
            if (row, place) not in self.seen:
                self.seen.add((row, place))
                yield ("look", row, letter)
            if letter == "end":
                return
            self.boxes[box] = LETTERS.index(letter)
            yield from self.block(block)
            place += 1

    def events(self, many):
        found, hand = [], 0
        while len(found) < many:
            event = next(self.hands[hand])
            if event[0] == "over":
                hand = event[1]
                continue
            found.append(event)
            if event == STOP:
                break
        return found


def script_events(script, contents, many):
    """The first so many events of a script."""
    return ScriptPlay(script, contents).events(many)


def all_pieces(plan):
    """The pieces of a plan, by what leads to what."""
    known = all_phases(plan)
    leads = {}
    for phase in known:
        found, queue = set(), [phase]
        while queue:
            for _, target in phase_steps(plan, queue.pop()):
                if target not in found:
                    found.add(target)
                    queue.append(target)
        leads[phase] = found
    found = []
    for phase in known:
        if phase in leads[phase]:
            piece = tuple([other for other in known if other in leads[phase] and phase in leads[other]])
            rows = {plan.table[one[0]][1] for one in piece for letter, to in phase_steps(plan, one)
                    if letter in tuple(LETTERS) and to in piece}
            found.append((piece, tuple(sorted(rows))))
    return sorted(set(found))


def joined_rows(plan):
    """The pairs of joined rows."""
    return tuple(sorted({(r, s) for _, rows in all_pieces(plan) for r in rows for s in rows if r < s}))


def dealings(rows):
    """All dealings of so many rows, ascending."""
    found = [()]
    for _ in range(rows):
        found = [dealing + (hand,) for dealing in found for hand in range(rows)]
    return [dealing for dealing in found if set(dealing) == set(range(max(dealing) + 1))]


def least_of_fewest(rows, pairs):
    """The least dealing of so many rows to the fewest hands that keeps these pairs apart."""
    fit = [dealing for dealing in dealings(rows) if all(dealing[r] != dealing[s] for r, s in pairs)]
    fewest = min([max(dealing) for dealing in fit])
    return [dealing for dealing in fit if max(dealing) == fewest][0]


def crossed_rows(plan):
    """The pairs of rows that cross: for each phase all orders of looks at two rows by turns, up to four, that lead to it."""
    found = set()
    for r in range(plan.rows):
        for s in range(r + 1, plan.rows):
            known, queue = {((0, ()), ())}, [((0, ()), ())]
            while queue:
                phase, order = queue.pop()
                item = plan.table[phase[0]]
                if item[0] == "look" and item[1] in (r, s) and item[1] not in phase[1] and order[-1:] != (item[1],):
                    order = order + (item[1],)
                if len(order) == 4:
                    found.add((r, s))
                    break
                for _, target in phase_steps(plan, phase):
                    if (target, order) not in known:
                        known.add((target, order))
                        queue.append((target, order))
    return tuple(sorted(found))
