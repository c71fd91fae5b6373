"""What the document tells, done once more in the plainest way, to be held against the program."""

STOP = ("stop",)
LETTERS = "abc"


def sign(content, place):
    head, ring = content
    text = head + ring * (place + 1) if ring else head
    return text[place] if place < len(text) else "end"


def run_events(plan, contents, many):
    """The first so many events of a plan."""
    found, standing, counts, ended = [], 0, [0] * plan.rows, set()
    while len(found) < many:
        item = plan.table[standing]
        if item[0] == "stop":
            found.append(STOP)
            break
        if item[0] == "say":
            found.append(("say", item[1]))
            standing = item[2]
        elif item[1] in ended:
            standing = item[2][-1]
        else:
            row = item[1]
            letter = sign(contents[row], counts[row])
            found.append(("look", row, letter))
            if letter == "end":
                ended.add(row)
                standing = item[2][-1]
            else:
                counts[row] += 1
                standing = item[2][LETTERS.index(letter)]
    return found


def phase_steps(plan, phase):
    """The steps from a phase."""
    standing, ended = phase
    item = plan.table[standing]
    if item[0] == "stop":
        return []
    if item[0] == "say":
        return [(None, (item[2], ended))]
    if item[1] in ended:
        return [(None, (item[2][-1], ended))]
    found = [(LETTERS[k], (item[2][k], ended)) for k in range(plan.letters)]
    return found + [("end", (item[2][-1], tuple(sorted(ended + (item[1],)))))]


def all_phases(plan):
    """All phases of a plan."""
    found, queue = {(0, ())}, [(0, ())]
    while queue:
        for _, target in phase_steps(plan, queue.pop()):
            if target not in found:
                found.add(target)
                queue.append(target)
    return sorted(found)


def is_ring(rows, letters, table, ring):
    """Whether a ring is one that Idle may tell, of the parts of a plan."""

    class Parts:
        pass

    plan = Parts()
    plan.rows, plan.letters, plan.table = rows, letters, table
    known = all_phases(plan)
    if not isinstance(ring, tuple) or len(ring) == 0:
        return False
    for at, phase in enumerate(ring):
        target = ring[(at + 1) % len(ring)]
        if phase not in known or target not in [to for sign, to in phase_steps(plan, phase) if sign in (None, "end")]:
            return False
    return True


def behaviours(plan, deep):
    """For each phase a number, the same for two phases if nothing tells them apart in so many events."""
    known = all_phases(plan)
    numbers = {phase: 0 for phase in known}
    for _ in range(deep):
        names = {}
        fresh = {}
        for phase in known:
            at = phase
            while plan.table[at[0]][0] == "look" and plan.table[at[0]][1] in at[1]:
                at = phase_steps(plan, at)[0][1]
            name = (plan.table[at[0]][:2], tuple([numbers[to] for _, to in phase_steps(plan, at)]))
            fresh[phase] = names.setdefault(name, len(names))
        numbers = fresh
    return numbers


def cleaned(plan):
    """The table of the clean plan."""
    numbers = behaviours(plan, 2 * len(all_phases(plan)) + 2)
    order, table = [(0, ())], []
    while len(table) < len(order):
        at = order[len(table)]
        while plan.table[at[0]][0] == "look" and plan.table[at[0]][1] in at[1]:
            at = phase_steps(plan, at)[0][1]
        targets = []
        for _, to in phase_steps(plan, at):
            classes = [numbers[phase] for phase in order]
            if numbers[to] not in classes:
                order.append(to)
                classes.append(numbers[to])
            targets.append(classes.index(numbers[to]))
        item = plan.table[at[0]]
        if item[0] == "look":
            table.append(("look", item[1], tuple(targets)))
        else:
            table.append(item[:2] + tuple(targets))
    return tuple(table)


class Walk:
    """A run of a program, as the document tells it."""

    def __init__(self, program, contents, once=False):
        self.program, self.contents, self.once = program, contents, once
        self.standing, self.seen, self.begun = 0, set(), set()
        self.open = {hand: [] for hand in program.dealing}

    def look(self, hand, row, place, nexts):
        letter = sign(self.contents[row], place)
        if letter == "end":
            self.standing = nexts[-1]
        else:
            self.open[hand].append((row, place))
            self.standing = nexts[LETTERS.index(letter)]
        if (row, place) in self.seen:
            return None
        self.seen.add((row, place))
        return ("look", row, letter)

    def deed(self):
        item = self.program.table[self.standing]
        if item[0] == "stop":
            return STOP
        if item[0] == "say":
            self.standing = item[2]
            return ("say", item[1])
        if item[0] == "begin":
            hand = self.program.dealing[item[1]]
            if self.once and item[1] in self.begun:
                return ("again", item[1])
            if len(self.open[hand]) == self.program.depth:
                return ("deep", hand)
            self.begun.add(item[1])
            return self.look(hand, item[1], 0, item[2])
        if not self.open[item[1]]:
            return ("none", item[1])
        row, place = self.open[item[1]].pop()
        if item[0] == "leave":
            self.standing = item[2]
            return None
        return self.look(item[1], row, place + 1, item[2])


def walk_events(program, contents, many, once=False, quiet=4000):
    """The first so many events of a program; one that has none in so many deeds is idle."""
    walk, found, silent = Walk(program, contents, once), [], 0
    while len(found) < many:
        event = walk.deed()
        if event is None:
            silent += 1
            if silent < quiet:
                continue
            event = ("idle",)
        silent = 0
        found.append(event)
        if event[0] not in ("look", "say"):
            break
    return found


def letters_seen(program, contents, deeds):
    """For each row the letters looked at in so many deeds."""
    walk = Walk(program, contents)
    for _ in range(deeds):
        event = walk.deed()
        if event is not None and event[0] not in ("look", "say"):
            break
    found = [0] * program.rows
    for row, place in walk.seen:
        if sign(contents[row], place) != "end":
            found[row] += 1
    return found
