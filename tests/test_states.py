"""The helpers that number states, and find parts of graphs and trails in them."""

import unittest

from tests.things import seeded
from wholewalks.errors import TooMany
from wholewalks.graphs import strong_parts, trail_to
from wholewalks.states import States, changed, table_of


class Chain:
    """So many states, each leading to the next one."""

    def __init__(self, many):
        self.many = many
        self.states = States()
        self.states.number(("first", 0))

    def item(self, number):
        place = self.states.known[number][1]
        if place == self.many - 1:
            return ("stop",)
        return ("say", "x", self.states.number(("later", place + 1)))


class StatesTest(unittest.TestCase):

    def test_so_many(self):
        for many in (1, 2, 19999, 20000):
            self.assertEqual(table_of(Chain(many)), tuple([("say", "x", at + 1) for at in range(many - 1)]) + (("stop",),))
        with self.assertRaises(TooMany) as caught:
            table_of(Chain(20001))
        self.assertEqual(caught.exception.most, 20000)

    def test_numbers(self):
        states = States()
        self.assertEqual([states.number(state) for state in "abacab"], [0, 1, 0, 2, 0, 1])
        self.assertEqual(states.known, ["a", "b", "c"])

    def test_changed(self):
        self.assertEqual([changed((1, 2, 3), at, 9) for at in range(3)], [(9, 2, 3), (1, 9, 3), (1, 2, 9)])


class GraphsTest(unittest.TestCase):

    def reached(self, nexts, start):
        found, queue = {start}, [start]
        while queue:
            for target in nexts[queue.pop()]:
                if target not in found:
                    found.add(target)
                    queue.append(target)
        return found

    def test_by_chance(self):
        rng = seeded(110)
        for _ in range(500):
            many = rng.randint(1, 12)
            nexts = [[rng.randrange(many) for _ in range(rng.randint(0, 2))] for _ in range(many)]
            parts = strong_parts(nexts)
            leads = [self.reached(nexts, node) for node in range(many)]
            for one in range(many):
                for other in range(many):
                    self.assertIs(parts[one] == parts[other], other in leads[one] and one in leads[other])
            start = rng.randrange(many)
            goals = [rng.random() < 0.3 for _ in range(many)]
            if any(goals[node] for node in leads[start]):
                steps, last = trail_to(nexts, start, goals)
                self.assertTrue(goals[last])
                at = start
                for node, way in steps:
                    self.assertEqual(node, at)
                    self.assertFalse(goals[at])
                    at = nexts[node][way]
                self.assertEqual(at, last)
                # As short as can be.
                near = {start}
                for _ in range(len(steps)):
                    self.assertFalse(any(goals[node] for node in near))
                    near |= {target for node in near for target in nexts[node]}

    def test_long_graphs(self):
        many = 30000
        self.assertEqual(len(set(strong_parts([[at + 1] for at in range(many - 1)] + [[]]))), many)
        self.assertEqual(len(set(strong_parts([[at + 1] for at in range(many - 1)] + [[0]]))), 1)
