"""Where words of a lot and of the other rows lead while the lot has not ended."""

from wholewalks.graphs import leads_within, strong_parts, trail_to


class Spots:
    """The triples (standing, ended rows of the lot, ended rows of the others), with masks, to which words lead.

    self.leads has for each spot and each reading of the lot the spots to which
    the two lead, by each reading of the others; None in the place of a spot, or of all of them,
    where the reading may not come as rows have ended.
    """

    def __init__(self, halves):
        self.halves = halves
        self.order = [(0, 0, 0)]
        self.numbers = {(0, 0, 0): 0}
        self.leads = []
        while len(self.leads) < len(self.order):
            spot = self.order[len(self.leads)]
            self.leads.append([self.leads_by(spot, one) for one in range(len(halves.ones.ended))])

    def leads_by(self, spot, one):
        """The spots to which a spot leads by a reading of the lot."""
        standing, gone, mask = spot
        ended = self.halves.ones.ended[one]
        if one == 0 or ended & gone != gone:
            return None
        found = []
        for other, is_legal in enumerate(self.halves.behind(mask)):
            number = None
            if is_legal:
                number = self.number((self.halves.steps[standing][one][other], ended, self.halves.others.ended[other]))
            found.append(number)
        return found

    def number(self, spot):
        """The number of a spot."""
        if spot not in self.numbers:
            self.numbers[spot] = len(self.order)
            self.order.append(spot)
        return self.numbers[spot]

    def ways(self, spot):
        """The pairs (reading of the lot, spot) to which a spot leads."""
        found = []
        for one, targets in enumerate(self.leads[spot]):
            if targets is not None:
                found.extend([(one, target) for target in targets if target is not None])
        return found


class FarSpots:
    """Which spots words of any length lead to: some ring of spots leads there.

    self.is_far has a flag for each spot.
    """

    def __init__(self, spots):
        self.ways = [spots.ways(spot) for spot in range(len(spots.order))]
        self.nexts = [[target for _, target in found] for found in self.ways]
        self.parts = strong_parts(self.nexts)
        self.rings = [leads_within(self.nexts, self.parts, spot) for spot in range(len(self.nexts))]
        self.is_far = list(self.rings)
        queue = [spot for spot, is_ring in enumerate(self.rings) if is_ring]
        while queue:
            targets = self.nexts[queue.pop()]
            for target in targets:
                if not self.is_far[target]:
                    self.is_far[target] = True
                    queue.append(target)

    def readings_to(self, spot):
        """The triple (lead, ring, rest) of readings of the lot that lead to a far spot; the ring may come again."""
        sources = [[] for _ in self.nexts]
        for source, targets in enumerate(self.nexts):
            for target in targets:
                sources[target].append(source)
        _, middle = trail_to(sources, spot, self.rings)
        way = [self.parts[target] == self.parts[middle] for target in self.nexts[middle]].index(True)
        ring = [self.ways[middle][way][0]] + self.readings(self.nexts[middle][way], middle)
        return (self.readings(0, middle), ring, self.readings(middle, spot))

    def readings(self, start, goal):
        """The fewest readings of the lot that lead from a spot to another one."""
        steps, _ = trail_to(self.nexts, start, [spot == goal for spot in range(len(self.nexts))])
        return [self.ways[spot][way][0] for spot, way in steps]
