"""A run of a program, led deed by deed, and how it is seen that no more events come."""

from wholewalks.contents import sign_at
from wholewalks.rounds import Turn
from wholewalks.standings import NEXTS

ENDS = ("stop", "none", "deep", "again", "idle")
IDLE = ("idle",)


class Walking:
    """A run of a program on contents.

    self.walks has for each hand the pairs (row, place) of its open walks, the
    outermost first; self.far tells for each row at how many of its places a
    walk has looked: they are the first ones, as each walk goes from the first on.
    """

    def __init__(self, program, contents, once):
        self.program = program
        self.dealing = program.dealing
        self.depth = program.depth
        self.contents = contents
        self.once = once
        self.standing = 0
        self.walks = [[] for _ in range(max(program.dealing) + 1)]
        self.far = [0] * program.rows

    def state(self):
        """What tells, beside the standing, how the run goes on."""
        return [list(walks) for walks in self.walks]

    def item(self):
        """What the standing tells."""
        return self.program.table[self.standing]

    def deed(self):
        """Does what the standing tells, and returns its event, None if it has none."""
        item = self.item()
        kind = item[0]
        if kind == "begin":
            return self.begin(item[1], item[2])
        if kind == "on":
            return self.go_on(item[1], item[2])
        if kind == "leave":
            return self.leave(item[1], item[2])
        if kind == "say":
            self.standing = item[2]
            return ("say", item[1])
        return item

    def begin(self, row, nexts):
        """Begins a walk of a row."""
        hand = self.dealing[row]
        if self.once and self.far[row] > 0:
            return ("again", row)
        if len(self.walks[hand]) == self.depth:
            return ("deep", hand)
        return self.look(hand, row, 0, nexts)

    def go_on(self, hand, nexts):
        """The innermost open walk of a hand goes on."""
        if len(self.walks[hand]) == 0:
            return ("none", hand)
        row, place = self.walks[hand].pop()
        return self.look(hand, row, place + 1, nexts)

    def leave(self, hand, standing):
        """The innermost open walk of a hand is over."""
        if len(self.walks[hand]) == 0:
            return ("none", hand)
        self.walks[hand].pop()
        self.standing = standing
        return None

    def look(self, hand, row, place, nexts):
        """Looks at a place, at which the walk is open from now on, unless the row has ended."""
        sign = sign_at(self.contents[row], place)
        if sign != "end":
            self.walks[hand].append((row, place))
        self.standing = nexts[NEXTS[sign]]
        if place < self.far[row]:
            return None
        self.far[row] = place + 1
        return ("look", row, sign)


    def before(self):
        """What the next deed may change, as it is now: the standing, and of one hand the innermost walk and its row."""
        item = self.item()
        if item[0] not in ("begin", "on", "leave"):
            return (self.standing, None, 0, (), None, 0)
        hand = item[1]
        row = None
        if item[0] == "begin":
            row = item[1]
            hand = self.dealing[row]
        walks = self.walks[hand]
        top = tuple(walks[-1:])
        if row is None and top:
            row = top[0][0]
        far = 0
        if row is not None:
            far = self.far[row]
        return (self.standing, hand, len(walks), top, row, far)

    def put_back(self, before):
        """Makes all what it was before a deed."""
        standing, hand, height, top, row, far = before
        self.standing = standing
        if hand is not None:
            walks = self.walks[hand]
            while len(walks) > height - len(top):
                walks.pop()
            walks.extend(top)
        if row is not None:
            self.far[row] = far

    def copied(self):
        """Another run that stands where this one does."""
        other = Walking(self.program, self.contents, self.once)
        other.standing = self.standing
        other.walks = [list(walks) for walks in self.walks]
        other.far = list(self.far)
        return other


class Climb:
    """Tells when a hand whose open walks may grow for ever comes to do what it did.

    If its innermost walk stands as it stood, and was never left in between, the
    walks further out were not asked: so it goes on likewise, were they as before or more.
    """

    def __init__(self, walking):
        self.walking = walking
        self.span = 1
        self.put_mark()

    def put_mark(self):
        """Marks where the hand stands now."""
        walks = self.walking.walks[0]
        self.deeds = 0
        self.standing = self.walking.standing
        self.height = len(walks)
        self.top = walks[-1:]

    def is_round(self):
        """Asked once behind each deed that has no event: whether it goes on so for ever."""
        walks = self.walking.walks[0]
        self.deeds += 1
        if len(walks) < self.height:
            self.put_mark()
        elif self.walking.standing == self.standing and walks[-1:] == self.top:
            return True
        elif self.deeds == self.span:
            self.span *= 2
            self.put_mark()
        return False


def watch_over(walking):
    """What tells, from now on up to the next event, whether none comes any more."""
    if walking.depth is None:
        return Climb(walking)
    return Turn(walking)


class Telling:
    """Tells the events of a run one by one, from where it stands, up to the last one."""

    def __init__(self, walking):
        self.walking = walking
        self.is_over = False

    def event(self):
        """The next event; there must be one more."""
        watch = None
        while True:
            event = self.walking.deed()
            if event is None and watch is None:
                watch = watch_over(self.walking)
            elif event is None and watch.is_round():
                event = IDLE
            if event is not None:
                self.is_over = event[0] in ENDS
                return event


def led_events(walking, many):
    """The first so many events from where a run stands, all if they are fewer."""
    telling = Telling(walking)
    found = []
    while len(found) < many and not telling.is_over:
        found.append(telling.event())
    return found
