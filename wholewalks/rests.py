"""What is answered to all that may still come of some rows, when those of a lot are known.

A rest is a pair (flag, nexts): the answer if the others have ended, and for each
reading of theirs the rest that is left behind it, None where it may not come as rows have ended.
Rests are numbered, so that two have one number if and only if all answers are the same.
"""

from wholewalks.classes import classes_of
from wholewalks.readings import readings_of


class Rests:
    """The rests of a question for a lot.

    self.tails has for each standing, and each mask of the others that have
    ended, what is left when the lot has ended; these are numbered first.
    """

    def __init__(self, halves):
        self.halves = halves
        self.masks = list(range(halves.full + 1))
        self.legal = [halves.behind(mask) for mask in self.masks]
        self.known = []
        self.numbers = {}
        self.tails = {}
        self.find_tails()
        self.tail_count = len(self.known)

    def find_tails(self):
        """Numbers what is left when the lot has ended: the classes of a table that reads the others alone."""
        halves = self.halves
        nodes = [(standing, mask) for standing in range(len(halves.flags)) for mask in self.masks]
        places = {node: at for at, node in enumerate(nodes)}
        nexts = []
        for standing, mask in nodes:
            found = [places[target] for target in self.targets(standing, 0, mask) if target is not None]
            nexts.append(found)
        classes = classes_of([(halves.flags[standing], mask) for standing, mask in nodes], nexts)
        numbers = {}
        for node, part in zip(nodes, classes):
            self.tails[node] = numbers.setdefault(part, len(numbers))
        forms = {}
        for standing, mask in nodes:
            flag = halves.flags[standing]
            forms[self.tails[standing, mask]] = self.form(flag, self.tails, self.targets(standing, 0, mask))
        for number in range(len(numbers)):
            self.number(forms[number])

    def targets(self, standing, one, mask):
        """Where a reading of the lot leads, by each reading of the others from 1 on; None where it may not come."""
        steps = self.halves.steps[standing][one]
        ended = self.halves.others.ended
        legal = self.legal[mask]
        return [(steps[other], ended[other]) if legal[other] else None for other in range(1, len(ended))]

    def form(self, flag, rests, targets):
        """The rest that has this flag, and leads to the rests of these."""
        return (flag, tuple([rests[target] if target is not None else None for target in targets]))

    def number(self, rest):
        """The number of a rest."""
        if rest not in self.numbers:
            self.numbers[rest] = len(self.known)
            self.known.append(rest)
        return self.numbers[rest]

    def flag_alone(self, flag):
        """The rest that is left when the others have all ended."""
        return self.number((flag, (None,) * (len(self.halves.others.ended) - 1)))

    def of_words(self, words):
        """The rest that words of the lot leave."""
        rests = self.tails
        for one in readings_of(self.halves.ones.letters, words)[::-1]:
            rests = self.before(one, rests)
        return rests[0, 0]

    def before(self, one, rests):
        """The rests one place further ahead, where the lot has this reading: all of those behind it are given."""
        found = {}
        for standing, mask in rests:
            flag = self.known[rests[self.halves.steps[standing][one][0], self.halves.full]][0]
            found[standing, mask] = self.number(self.form(flag, rests, self.targets(standing, one, mask)))
        return found

    def parting(self, one, other):
        """The fewest readings of the others to which two rests answer unlike, None if they are the same."""
        if one == other:
            return None
        known = {(one, other): True}
        queue = [(one, other, ())]
        at = 0
        while self.known[queue[at][0]][0] == self.known[queue[at][1]][0]:
            first, second, readings = queue[at]
            for place, pair in enumerate(zip(self.known[first][1], self.known[second][1])):
                if pair[0] != pair[1] and pair not in known:
                    known[pair] = True
                    queue.append(pair + (readings + (place + 1,),))
            at += 1
        return queue[at][2]
