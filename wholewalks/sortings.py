"""The words of a lot read forward, with all sorts that can come of them."""

from wholewalks.errors import TooMany
from wholewalks.halves import Halves
from wholewalks.profiles import Profiles

MOST_PROFILES = 3000


class Sorting:
    """The least machine that reads words of a lot and knows their sorts, which must be finitely many.

    What was read so far is known by its outlook: for each profile the number of
    the sort that comes if words of it follow, None where rows that have ended
    would go on. The outlook on the first profile, that of empty words, is the sort of what was read.
    """

    def __init__(self, profiles, most):
        self.profiles = profiles
        self.most = most
        sorts = {}
        for _, rests in profiles.order:
            sorts.setdefault(rests[0], len(sorts))
        self.outlooks = []
        self.numbers = {}
        self.number(tuple([sorts[rests[0]] for _, rests in profiles.order]))

    def number(self, outlook):
        """The number of an outlook."""
        if outlook not in self.numbers:
            self.numbers[outlook] = len(self.outlooks)
            self.outlooks.append(outlook)
            if self.most is not None and len(self.outlooks) > self.most:
                raise TooMany(self.most)
        return self.numbers[outlook]

    def target(self, number, one):
        """The number of the outlook behind one more reading, None if it may not come."""
        outlook = self.outlooks[number]
        if outlook[self.profiles.ahead[0][one]] is None:
            return None
        found = [None if ahead[one] is None else outlook[ahead[one]] for ahead in self.profiles.ahead]
        return self.number(tuple(found))

    def sort_of(self, number):
        """The number of the sort of what was read."""
        return self.outlooks[number][0]

    def machine(self):
        """The sorter that has a standing for each outlook; readings that cannot come lead to the first one."""
        nexts = []
        readings = len(self.profiles.ahead[0])
        while len(nexts) < len(self.outlooks):
            targets = [self.target(len(nexts), one) for one in range(1, readings)]
            nexts.append(tuple([0 if target is None else target for target in targets]))
        return (tuple(nexts), tuple([self.sort_of(number) for number in range(len(nexts))]))


def words_of_numbers(question, lot, machine):
    """A dict with words for each number that a sorter tells of any; None if one number is told of unlike sorts.

    The sorter reads beside the least machine, which knows the sorts.
    """
    profiles = Profiles(Halves(question, lot), None)
    if profiles.far is not None:
        return None
    nexts, numbers = machine
    sorting = Sorting(profiles, None)
    known = {(0, 0): True}
    queue = [(0, 0, ())]
    sorts = {}
    words = {}
    at = 0
    while at < len(queue):
        standing, outlook, readings = queue[at]
        if sorts.setdefault(numbers[standing], sorting.sort_of(outlook)) != sorting.sort_of(outlook):
            return None
        if numbers[standing] not in words:
            words[numbers[standing]] = profiles.halves.ones.words(readings)
        for one in range(1, len(profiles.ahead[0])):
            target = sorting.target(outlook, one)
            if target is not None and (nexts[standing][one - 1], target) not in known:
                known[nexts[standing][one - 1], target] = True
                queue.append((nexts[standing][one - 1], target, readings + (one,)))
        at += 1
    return words
