"""The helpers that find classes of nodes, and what comes round."""

import unittest

from tests.things import random_word, seeded
from wholewalks.classes import classes_of
from wholewalks.contents import least_content, least_place, sign
from wholewalks.rounds import shortest, shortest_round


def plain_classes(labels, nexts):
    """The same by cutting all classes again and again until nothing changes."""
    classes = list(labels)
    while True:
        names = {}
        found = [names.setdefault((classes[at],) + tuple([classes[to] for to in row]), len(names))
                 for at, row in enumerate(nexts)]
        if len(names) == len(set(classes)):
            return found
        classes = found


def first_met(classes):
    """The classes numbered as they are first met."""
    names = {}
    return [names.setdefault(name, len(names)) for name in classes]


class ClassesTest(unittest.TestCase):

    def same(self, labels, nexts):
        self.assertEqual(first_met(classes_of(labels, nexts)), first_met(plain_classes(labels, nexts)), (labels, nexts))

    def test_rings(self):
        for size in range(1, 25):
            for stride in range(1, size + 1):
                labels = [("x",) if at % stride == 0 else ("y",) for at in range(size)]
                self.same(labels, [[(at + 1) % size] for at in range(size)])

    def test_by_chance(self):
        rng = seeded(60)
        for _ in range(1500):
            many, ways = rng.randint(1, 14), rng.randint(1, 3)
            few = rng.randint(1, many)
            labels = [("x",) if rng.random() < 0.85 else ("y",) for _ in range(many)]
            nexts = [[rng.randrange(few) if rng.random() < 0.5 else rng.randrange(many) for _ in range(ways)]
                     for _ in range(many)]
            self.same(labels, nexts)

    def test_unlike_numbers_of_ways(self):
        rng = seeded(61)
        for _ in range(500):
            many = rng.randint(1, 16)
            labels = [rng.choice("xxxyyz") for _ in range(many)]
            nexts = [[rng.randrange(many) for _ in range({"x": 2, "y": 1, "z": 0}[label])] for label in labels]
            self.same(labels, nexts)

    def test_many_nodes(self):
        rng = seeded(62)
        for _ in range(20):
            many = 300
            labels = ["x"] * (many - 1) + ["y"]
            nexts = [[min(at + 1, many - 1), rng.randrange(max(1, at))] for at in range(many)]
            self.same(labels, nexts)
            self.same(labels, [[to % 50 * 6 for to in row] for row in nexts])


class RoundsTest(unittest.TestCase):

    def test_shortest_round(self):
        told = {"a": "a", "aa": "a", "ab": "ab", "abab": "ab", "aab": "aab", "abaab": "abaab", "aabaab": "aab",
                "abcabcabc": "abc", "abaaba": "aba", "aabaa": "aabaa"}
        for items, least in told.items():
            self.assertEqual(shortest_round(items), least)
            self.assertEqual(shortest_round(list(items)), list(least))

    def test_shortest(self):
        self.assertEqual(shortest("ab", "bb"), ("a", "b"))
        self.assertEqual(shortest([1, 2, 1], [2, 1]), ([], [1, 2]))
        self.assertEqual(shortest([1, 2], []), ([1, 2], []))
        self.assertEqual(shortest("bca", "bcabca"), ("", "bca"))

    def test_least_places(self):
        rng = seeded(63)
        for _ in range(200):
            head, ring = least_content((random_word(rng, 3, 5), random_word(rng, 3, 5)))
            for one in range(12):
                for other in range(12):
                    same = [sign((head, ring), one + k) for k in range(12)] == [sign((head, ring), other + k) for k in range(12)]
                    if ring == "" and min(one, other) >= len(head):
                        continue
                    self.assertEqual(least_place((head, ring), one) == least_place((head, ring), other), same)
