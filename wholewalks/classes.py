"""Classes of the nodes of a graph: nodes are of one class if they do the same, and so do those to which they lead."""


class Classes:
    """Nodes in parts that are cut until each leads to one part alone by each way.

    The nodes of a part stand side by side in self.order, from its start up to
    its end; those that are marked stand first. Of two pieces of a part that is
    cut only the lesser one need be tried again, if the part was not due.
    """

    def __init__(self, labels, nexts):
        self.order = []
        self.starts = []
        self.ends = []
        self.marked = []
        self.spots = [0] * len(labels)
        self.parts = [0] * len(labels)
        for nodes in alike_nodes(labels):
            self.add_part(len(self.order), len(self.order) + len(nodes))
            self.order.extend(nodes)
        self.number(0, len(self.starts))
        self.sources = sources_of(nexts)
        self.due = list(range(len(self.starts)))
        self.is_due = [True] * len(self.starts)
        while self.due:
            self.try_part(self.due.pop())

    def add_part(self, start, end):
        """One more part, from start up to end."""
        self.starts.append(start)
        self.ends.append(end)
        self.marked.append(0)

    def number(self, first, last):
        """The nodes of the parts from the first one up to the last one learn where they stand."""
        for part in range(first, last):
            for spot in range(self.starts[part], self.ends[part]):
                self.spots[self.order[spot]] = spot
                self.parts[self.order[spot]] = part

    def try_part(self, part):
        """Cuts all parts some nodes of which lead to this one, and some do not, by one way."""
        self.is_due[part] = False
        arrivals = {}
        for node in self.order[self.starts[part]:self.ends[part]]:
            for way, source in self.sources[node]:
                arrivals.setdefault(way, []).append(source)
        for nodes in arrivals.values():
            touched = []
            for node in nodes:
                self.mark(node, touched)
            for other in touched:
                self.cut(other)

    def mark(self, node, touched):
        """Puts a node among the marked ones of its part, which is touched by the first of these."""
        part = self.parts[node]
        if self.marked[part] == 0:
            touched.append(part)
        spot = self.starts[part] + self.marked[part]
        self.marked[part] += 1
        other = self.order[spot]
        self.order[self.spots[node]] = other
        self.spots[other] = self.spots[node]
        self.order[spot] = node
        self.spots[node] = spot

    def cut(self, part):
        """The marked nodes of a part become one of their own, unless they are all of it."""
        start = self.starts[part]
        middle = start + self.marked[part]
        self.marked[part] = 0
        if middle == self.ends[part]:
            return
        new = len(self.starts)
        self.add_part(start, middle)
        self.number(new, new + 1)
        self.starts[part] = middle
        self.is_due.append(False)
        if self.is_due[part] or middle - start <= self.ends[part] - middle:
            self.put_due(new)
        else:
            self.put_due(part)

    def put_due(self, part):
        """A part is to be tried."""
        self.is_due[part] = True
        self.due.append(part)


def alike_nodes(labels):
    """The lists of nodes with one label each."""
    found = {}
    for node, label in enumerate(labels):
        found.setdefault(label, []).append(node)
    return list(found.values())


def sources_of(nexts):
    """For each node the pairs (way, node) of those that lead to it by this way."""
    found = [[] for _ in nexts]
    for node, row in enumerate(nexts):
        for way, target in enumerate(row):
            found[target].append((way, node))
    return found


def classes_of(labels, nexts):
    """For each node the number of its class."""
    return Classes(labels, nexts).parts
