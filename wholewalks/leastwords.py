"""The words of a sort that have the fewest letters."""

from wholewalks.rests import Rests


class LeastWords:
    """Goes through words of a lot place by place, in search of the least ones of a sort.

    A node is (ended rows of the lot, needs): the needs are pairs of a spot, that
    is a pair (standing, ended rows of the others) to which the words so far can
    lead, and the rest that must be left there. Of words that come to one node at
    one place only the least ones need go on.
    """

    def __init__(self, halves, words):
        self.halves = halves
        self.rests = Rests(halves)
        self.least = (sum([len(word) for word in words]), words)
        target = self.rests.of_words(words)
        self.first = (0, (((0, 0), target),))
        self.fewest = {}

    def found(self):
        """The least words: words that have more letters than the least that are known do not go on."""
        layer = {self.first: (0, ("",) * self.halves.ones.rows)}
        while layer:
            for node, told in layer.items():
                self.fewest[node] = min(told[0], self.fewest.get(node, told[0]))
                if self.may_end(node):
                    self.least = min(self.least, told)
            layer = self.next_layer(layer)
        return self.least[1]

    def may_end(self, node):
        """Whether all that must be left is left if the lot ends."""
        for spot, rest in node[1]:
            if self.rests.tails[spot] != rest:
                return False
        return True

    def next_layer(self, layer):
        """The nodes one place further on, each with the fewest letters, and the least such words, that lead there."""
        found = {}
        for node, (letters, words) in layer.items():
            for one in range(1, len(self.halves.ones.figures)):
                more = letters + len([figure for figure in self.halves.ones.figures[one] if figure > 0])
                target = None
                if more <= self.least[0]:
                    target = self.node_behind(node, one)
                if target is not None and more <= self.fewest.get(target, more):
                    added = self.halves.ones.words([one])
                    told = (more, tuple([word + letter for word, letter in zip(words, added)]))
                    found[target] = min(told, found.get(target, told))
        return found

    def node_behind(self, node, one):
        """The node to which a reading leads, None if it may not come, or one spot would need two rests."""
        gone, needs = node
        ended = self.halves.ones.ended[one]
        if ended & gone != gone:
            return None
        found = {}
        for (standing, mask), rest in needs:
            flag, nexts = self.rests.known[rest]
            steps = self.halves.steps[standing][one]
            pairs = [((steps[0], self.halves.full), self.rests.flag_alone(flag))]
            for other, left in enumerate(nexts):
                if left is not None:
                    pairs.append(((steps[other + 1], self.halves.others.ended[other + 1]), left))
            for spot, left in pairs:
                if found.setdefault(spot, left) != left:
                    return None
        return (ended, tuple(sorted(found.items())))
