"""What scripts do, one walk or word at a time: blocks in a row, and the states that they come to."""

from wholewalks.statements import MOST_BOX, eaches_nested
from wholewalks.states import States, changed

SILENT = ("go", "if", "set", "over")


class Track:
    """A block written in a row of marks, so that each place of it has a number.

    Marks are ("say", word), ("stop",), ("set", box, value), ("over", hand),
    ("if", box, value, label) that goes on at the label unless the box has the value,
    ("go", label), ("leave",) of one walk alone, ("begin", row, box, label) and
    ("on", box, body, label): at a letter to the next mark or to the body, at the
    end to the label. self.spots has the number of the mark at which a label stands.
    """

    def __init__(self, block):
        self.marks = []
        self.spots = []
        self.around = []
        self.add_block(block)
        # A hand that comes to the end of its block stops.
        self.marks.append(("stop",))

    def new_label(self):
        """A label that stands nowhere yet."""
        self.spots.append(None)
        return len(self.spots) - 1

    def put_label(self, label):
        """The label stands at the mark that comes next."""
        self.spots[label] = len(self.marks)

    def add_block(self, block):
        """Writes all of a block."""
        for statement in block:
            kind = statement[0]
            if kind == "each":
                self.add_each(statement)
            elif kind == "if":
                self.add_if(statement)
            elif kind == "leave":
                self.marks.extend([("leave",)] * statement[1])
                self.marks.append(("go", self.around[-statement[1]]))
            else:
                self.marks.append(statement)

    def add_each(self, statement):
        """Writes an each: its begin, its block, and the look behind it."""
        row, box = statement[1:3]
        body = self.new_label()
        behind = self.new_label()
        self.marks.append(("begin", row, box, behind))
        self.put_label(body)
        self.around.append(behind)
        self.add_block(statement[3])
        self.around.pop()
        self.marks.append(("on", box, body, behind))
        self.put_label(behind)

    def add_if(self, statement):
        """Writes both blocks of an if."""
        other = self.new_label()
        behind = self.new_label()
        self.marks.append(("if", statement[1], statement[2], other))
        self.add_block(statement[3])
        self.marks.append(("go", behind))
        self.put_label(other)
        self.add_block(statement[4])
        self.put_label(behind)


class Unfolding:
    """The states of a script, which are the standings of a program that does the same.

    A state is a triple: the hand whose turn it is, the spot of each hand on its
    track, and the values of the boxes; at the spot of this hand there is a mark
    that makes a standing.
    """

    def __init__(self, script):
        self.rows = script.rows
        self.letters = script.letters
        self.dealing = script.dealing
        self.depth = max(1, max([eaches_nested(block) for block in script.blocks]))
        self.tracks = [Track(block) for block in script.blocks]
        self.states = States()
        self.found = {}
        self.number(0, (0,) * len(self.tracks), (0,) * (MOST_BOX + 1))

    def number(self, hand, spots, boxes):
        """The number of the state to which all leads that makes no standing, as from here on."""
        while True:
            track = self.tracks[hand]
            mark = track.marks[spots[hand]]
            kind = mark[0]
            if kind not in SILENT:
                return self.states.number((hand, spots, boxes))
            spot = spots[hand] + 1
            if kind == "go" or (kind == "if" and boxes[mark[1]] != mark[2]):
                spot = track.spots[mark[-1]]
            if kind == "set":
                boxes = changed(boxes, mark[1], mark[2])
            spots = changed(spots, hand, spot)
            if kind == "over":
                hand = mark[1]

    def item(self, standing):
        """What a standing does."""
        if standing not in self.found:
            self.found[standing] = self.new_item(standing)
        return self.found[standing]

    def new_item(self, standing):
        """The same, found out."""
        hand, spots, boxes = self.states.known[standing]
        track = self.tracks[hand]
        mark = track.marks[spots[hand]]
        kind = mark[0]
        if kind == "stop":
            return mark
        onward = changed(spots, hand, spots[hand] + 1)
        if kind == "say":
            return ("say", mark[1], self.number(hand, onward, boxes))
        if kind == "leave":
            return ("leave", hand, self.number(hand, onward, boxes))
        behind = changed(spots, hand, track.spots[mark[3]])
        if kind == "begin":
            return ("begin", mark[1], self.nexts(hand, onward, behind, boxes, mark[2]))
        onward = changed(spots, hand, track.spots[mark[2]])
        return ("on", hand, self.nexts(hand, onward, behind, boxes, mark[1]))

    def nexts(self, hand, onward, behind, boxes, box):
        """Where a look leads: by each letter, which is put into the box, and by the end."""
        found = [self.number(hand, onward, changed(boxes, box, value)) for value in range(self.letters)]
        found.append(self.number(hand, behind, boxes))
        return tuple(found)
