"""Graphs of nodes numbered from 0 on: nexts has for each node the nodes to which it leads, by each way."""


class PartSearch:
    """Goes through a graph in depth, and closes each part when all to which it leads is closed.

    self.marks tells in which order nodes were met; self.lows the least mark of an
    open node to which a node is known to lead.
    """

    def __init__(self, nexts):
        self.graph = nexts
        self.marks = [None] * len(nexts)
        self.lows = [0] * len(nexts)
        self.parts = [None] * len(nexts)
        self.held = []
        self.met = 0
        self.closed = 0
        for node in range(len(nexts)):
            if self.marks[node] is None:
                self.go_from(node)

    def meet(self, node):
        """A node is met first."""
        self.marks[node] = self.met
        self.lows[node] = self.met
        self.met += 1
        self.held.append(node)

    def go_from(self, start):
        """Goes through all to which a node leads."""
        self.meet(start)
        path = [start]
        ways = [0]
        while path:
            node = path[-1]
            if ways[-1] == len(self.graph[node]):
                path.pop()
                ways.pop()
                self.leave(node)
                if path:
                    self.lows[path[-1]] = min(self.lows[path[-1]], self.lows[node])
                continue
            target = self.graph[node][ways[-1]]
            ways[-1] += 1
            if self.marks[target] is None:
                self.meet(target)
                path.append(target)
                ways.append(0)
            elif self.parts[target] is None:
                self.lows[node] = min(self.lows[node], self.marks[target])

    def leave(self, node):
        """All to which a node leads was gone through; the part of which it was met first is closed."""
        if self.lows[node] < self.marks[node]:
            return
        while self.parts[node] is None:
            self.parts[self.held.pop()] = self.closed
        self.closed += 1


def strong_parts(nexts):
    """For each node the number of its part: nodes are of one part if they lead to one another."""
    return PartSearch(nexts).parts


def leads_within(nexts, parts, node):
    """Whether a node leads to its own part."""
    for target in nexts[node]:
        if parts[target] == parts[node]:
            return True
    return False


def trail_to(nexts, start, goals):
    """The shortest trail from a node to a goal, which it leads to: its steps, pairs (node, way), and the goal.

    goals has a flag for each node.
    """
    back = {start: None}
    queue = [start]
    at = 0
    while not goals[queue[at]]:
        node = queue[at]
        for way, target in enumerate(nexts[node]):
            if target not in back:
                back[target] = (node, way)
                queue.append(target)
        at += 1
    return (steps_back(back, queue[at]), queue[at])


def steps_back(back, node):
    """The steps that lead to a node: back has for each node the step to it, None for the first one."""
    steps = []
    while back[node] is not None:
        steps.append(back[node])
        node = back[node][0]
    return steps[::-1]
