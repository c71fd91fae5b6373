"""What comes round: sequences that repeat, and runs that come back to where they stood."""


def shortest_round(items):
    """The shortest beginning of items, a string or a list, that gives them when it is repeated."""
    many = len(items)
    borders = [0] * many
    width = 0
    for at in range(1, many):
        while width > 0 and items[at] != items[width]:
            width = borders[width - 1]
        if items[at] == items[width]:
            width += 1
        borders[at] = width
    short = many - width
    if many % short == 0:
        return items[:short]
    return items


def shortest(first, ring):
    """The pair that says the same as first and then ring for ever: the shortest ring, then the shortest first.

    Both are strings or both lists; an empty ring is none, and first is all there is.
    """
    if len(ring) == 0:
        return (first, ring)
    ring = shortest_round(ring)
    size = len(ring)
    many = 0
    while many < len(first) and first[len(first) - 1 - many] == ring[size - 1 - many % size]:
        many += 1
    cut = size - many % size
    return (first[:len(first) - many], ring[cut:] + ring[:cut])


class Turn:
    """Tells when a runner comes back to where it stood.

    A runner has a standing and a state(), which together tell how it goes on.
    It is compared with one mark alone, which is set anew after twice as many
    deeds each time: so each round is found, and no long list is kept.
    """

    def __init__(self, runner):
        self.runner = runner
        self.span = 1
        self.put_mark()

    def put_mark(self):
        """Marks where the runner stands now."""
        self.deeds = 0
        self.standing = self.runner.standing
        self.stood = self.runner.state()

    def is_round(self):
        """Asked once behind each deed: whether all is as it was self.deeds deeds ago."""
        self.deeds += 1
        if self.runner.standing == self.standing and self.runner.state() == self.stood:
            return True
        if self.deeds == self.span:
            self.span *= 2
            self.put_mark()
        return False
