"""Groups of rows, and trees over them that show how many hands there must be."""

from wholewalks.coloring import least_apart


class Grouping:
    """Groups, ascending tuples of rows, and the pairs of them that are joined, each either way round."""

    def __init__(self, rows, pairs):
        self.groups = [(row,) for row in rows]
        self.joined = {}
        for one, other in pairs:
            self.tie((one,), (other,))

    def tie(self, one, other):
        """Joins two groups."""
        self.joined[one, other] = True
        self.joined[other, one] = True

    def is_joined(self, one, other):
        """Whether two groups are joined."""
        return (one, other) in self.joined

    def are_joined(self, groups):
        """Whether each two of these groups are joined; so none stands there twice."""
        for at, one in enumerate(groups):
            for other in groups[:at]:
                if not self.is_joined(one, other):
                    return False
        return True

    def copied(self):
        """The same groups, joined in the same way."""
        other = Grouping([], [])
        other.groups = list(self.groups)
        other.joined = {pair: True for pair in self.joined}
        return other

    def same(self, one, other):
        """What comes of it if two groups are one."""
        both = tuple(sorted(one + other))
        names = {group: group for group in self.groups}
        names[one] = both
        names[other] = both
        found = Grouping([], [])
        found.groups = [group for group in self.groups if group != one and group != other] + [both]
        found.joined = {(names[left], names[right]): True for left, right in self.joined}
        return found

    def apart(self, one, other):
        """What comes of it if two groups are joined."""
        found = self.copied()
        found.tie(one, other)
        return found

    def all_joined(self, many):
        """So many groups each two of which are joined, as a tuple; None if there are none."""
        queue = [()]
        while queue:
            chosen = queue.pop()
            if len(chosen) == many:
                return tuple([self.groups[at] for at in chosen])
            start = chosen[-1] + 1 if chosen else 0
            for at in range(start, len(self.groups)):
                if self.are_linked(chosen, at):
                    queue.append(chosen + (at,))
        return None

    def are_linked(self, chosen, at):
        """Whether the group at this place is joined to all chosen ones."""
        for other in chosen:
            if not self.is_joined(self.groups[other], self.groups[at]):
                return False
        return True

    def are_tied(self, group, one, other):
        """Whether a group is joined to both of two."""
        return self.is_joined(group, one) and self.is_joined(group, other)

    def likely_pair(self):
        """Two groups that are not joined, and have as many groups as can be that are joined to both."""
        best = None
        most = -1
        for at, one in enumerate(self.groups):
            for other in self.groups[:at]:
                many = len([group for group in self.groups if self.are_tied(group, one, other)])
                if many > most and not self.is_joined(one, other):
                    most = many
                    best = (other, one)
        return best


def need_of(rows, pairs, number):
    """A need for so many hands of so many rows, which cannot do with fewer."""
    groupings = [Grouping(needed_rows(rows, pairs, number), [])]
    for one, other in pairs:
        if (one,) in groupings[0].groups and (other,) in groupings[0].groups:
            groupings[0].tie((one,), (other,))
    forms = []
    while len(forms) < len(groupings):
        grouping = groupings[len(forms)]
        groups = grouping.all_joined(number)
        if groups is not None:
            forms.append(("all", groups))
            continue
        one, other = grouping.likely_pair()
        forms.append(("case", one, other, len(groupings)))
        groupings.append(grouping.same(one, other))
        groupings.append(grouping.apart(one, other))
    return tree_of(forms)


def tree_of(forms):
    """The tree whose root is the first form: a case tells at what place its two trees stand, behind its own."""
    trees = [None] * len(forms)
    for at in range(len(forms) - 1, -1, -1):
        form = forms[at]
        if form[0] == "case":
            form = form[:3] + (trees[form[3]], trees[form[3] + 1])
        trees[at] = form
    return trees[0]


def needed_rows(rows, pairs, number):
    """Rows that need so many hands, none of which can be left out."""
    needed = list(range(rows))
    for row in range(rows):
        fewer = [other for other in needed if other != row]
        if fewer and most_hands(fewer, pairs) == number:
            needed = fewer
    return needed


def most_hands(rows, pairs):
    """How many hands these rows need."""
    places = {row: at for at, row in enumerate(rows)}
    left = [(places[one], places[other]) for one, other in pairs if one in places and other in places]
    return max(least_apart(len(rows), left)) + 1
