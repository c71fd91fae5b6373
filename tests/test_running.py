"""2.3: runs of plans."""

import unittest

from tests import naive
from tests.things import C, D, STOP, T, U, odd_things, random_contents, random_plan, sames, seeded
from wholewalks.errors import NoContents, NoNumber
from wholewalks.plans import Plan
from wholewalks.running import events, looked, whole_run

BAD_CONTENTS = [(), (("a", ""),), (("a", ""),) * 3, [("a", ""), ("a", "")], (("b", ""), ("a", "")),
                (("a", ""), ("", "b")), (("a", ""), ["a", ""]), (("a", ""), ("a",)), ("a", "a"), (("a", ""), None),
                (("a", ""), (b"a", "")), (("a", ""), ("a", None))]
BAD_NUMBERS = [-1, 10001, True, False, None, "9", (9,), [9], 10 ** 39, b"9", {}, ()]


class EventsTest(unittest.TestCase):

    def test_e01(self):
        self.assertEqual(events(T, C, 9), [("look", 0, "a"), ("look", 1, "a"), ("look", 0, "a"), ("look", 1, "end"),
                                           ("stop",)])

    def test_so_many(self):
        for many in range(8):
            self.assertEqual(events(T, C, many), events(T, C, 9)[:many])
        self.assertEqual(events(T, D, 0), [])
        self.assertEqual(events(T, D, 10000), [("look", 0, "a"), ("look", 1, "a")] * 5000)
        self.assertEqual(len(events(T, C, 10000)), 5)

    def test_says_and_ended_rows(self):
        plan = Plan(1, 2, (("say", "x", 1), ("look", 0, (1, 2, 3)), ("say", "b", 1), ("look", 0, (0, 0, 4)),
                           ("say", "end", 5), STOP))
        self.assertEqual(events(plan, (("ab", ""),), 99),
                         [("say", "x"), ("look", 0, "a"), ("look", 0, "b"), ("say", "b"), ("look", 0, "end"),
                          ("say", "end"), STOP])
        self.assertEqual(events(Plan(1, 1, (STOP,)), (("", ""),), 99), [STOP])
        self.assertEqual(events(Plan(1, 1, (STOP,)), (("", "a"),), 0), [])

    def test_by_chance(self):
        rng = seeded(10)
        for _ in range(400):
            plan = random_plan(rng)
            contents = random_contents(rng, plan.rows, plan.letters)
            self.assertEqual(events(plan, contents, 60), naive.run_events(plan, contents, 60))

    def test_wrong_contents_then_wrong_numbers(self):
        for contents in BAD_CONTENTS + odd_things():
            for many in (9, -1, None):
                with self.assertRaises(NoContents):
                    events(T, contents, many)
        for many in BAD_NUMBERS + odd_things():
            with self.assertRaises(NoNumber):
                events(T, C, many)

    def test_new_lists(self):
        events(T, C, 9).clear()
        self.assertEqual(len(events(T, C, 9)), 5)


class WholeRunTest(unittest.TestCase):

    def test_e02(self):
        self.assertEqual(whole_run(T, D), ([], [("look", 0, "a"), ("look", 1, "a")]))

    def test_runs_that_stop(self):
        self.assertEqual(whole_run(T, C), (events(T, C, 9), []))
        self.assertEqual(whole_run(Plan(1, 1, (STOP,)), (("", "a"),)), ([STOP], []))

    def test_shortest(self):
        a = ("look", 0, "a")
        plan = Plan(1, 1, (("look", 0, (1, 2)), ("look", 0, (0, 2)), STOP))
        self.assertEqual(whole_run(plan, (("aaa", "aaaa"),)), ([], [a]))
        plan = Plan(1, 1, (("say", "x", 1), ("look", 0, (1, 2)), STOP))
        self.assertEqual(whole_run(plan, (("a", "a"),)), ([("say", "x")], [a]))
        plan = Plan(1, 1, (("say", "x", 1), ("look", 0, (0, 2)), STOP))
        self.assertEqual(whole_run(plan, (("a", "a"),)), ([], [("say", "x"), a]))

    def test_rows_whose_rounds_go_together(self):
        contents = (("", "a" * 24 + "b"), ("ba", "a" * 15 + "b"), ("", "aab"), ("a" * 60, "aaaaaab"), ("", "b"), ("", "a"))
        plan = Plan(6, 2, tuple([("look", row, ((row + 1) % 6,) * 2 + (6,)) for row in range(6)]) + (STOP,))
        first, ring = whole_run(plan, contents)
        self.assertEqual(len(ring), 6 * 25 * 16 * 3 * 7)
        self.assertEqual(first + ring, naive.run_events(plan, contents, len(first) + len(ring)))
        self.assertEqual(len(first), 6 * 60 - 2)

    def test_rounds_that_come_to_10000_together(self):
        contents = (("a" * 60, "a" * 39 + "b"), ("b" * 7, "a" * 24 + "b"), ("", "a" * 9 + "b"), ("a", ""), ("", ""), ("", "a"))
        plan = Plan(6, 2, (("look", 0, (1, 1, 5)), ("look", 1, (0, 2, 5)), ("look", 2, (0, 3, 5)),
                           ("look", 3, (3, 3, 4)), ("say", "met", 0), STOP))
        first, ring = whole_run(plan, contents)
        long = events(plan, contents, 10000)
        self.assertEqual((first + ring * (10000 // len(ring) + 1))[:10000], long)
        for size in range(1, len(ring)):
            if len(ring) % size == 0:
                self.assertNotEqual(ring[size:] + ring[:size], ring)
        if first:
            self.assertNotEqual(first[-1], ring[-1])

    def test_a_round_met_late(self):
        # Row 2 is looked at only when rows 0 and 1, of 99 and 100 letters in all their turns, show b at once.
        contents = (("", "a" * 48 + "b"), ("", "a" * 49 + "b"), ("a" * 5, ""))
        plan = Plan(3, 2, (("look", 0, (1, 2, 4)), ("look", 1, (0, 0, 4)), ("look", 1, (0, 3, 4)),
                           ("look", 2, (0, 0, 4)), STOP))
        first, ring = whole_run(plan, contents)
        self.assertEqual(ring, [])
        self.assertEqual(len(first), 6 * 2 * 49 * 50 + 6 + 1)
        self.assertEqual(first[-2:], [("look", 2, "end"), STOP])

    def test_by_chance(self):
        rng = seeded(11)
        rounds = 0
        for _ in range(500):
            plan = random_plan(rng)
            contents = random_contents(rng, plan.rows, plan.letters)
            first, ring = whole_run(plan, contents)
            self.assertEqual(ring == [], STOP in first)
            self.assertEqual((first + ring * 300)[:300], naive.run_events(plan, contents, 300))
            for size in range(1, len(ring)):
                self.assertNotEqual(ring[size:] + ring[:size], ring)
            if ring and first:
                self.assertNotEqual(first[-1], ring[-1])
            rounds += ring != []
        self.assertGreater(rounds, 80)

    def test_contents_written_otherwise(self):
        rng = seeded(12)
        for _ in range(60):
            plan = random_plan(rng)
            contents = random_contents(rng, plan.rows, plan.letters)
            others = tuple([rng.choice(sames(content)) for content in contents])
            self.assertEqual(whole_run(plan, contents), whole_run(plan, others))
            self.assertEqual(looked(plan, contents), looked(plan, others))

    def test_wrong_contents(self):
        for contents in BAD_CONTENTS + odd_things():
            with self.assertRaises(NoContents):
                whole_run(T, contents)
            with self.assertRaises(NoContents):
                looked(T, contents)

    def test_new_lists(self):
        first, ring = whole_run(T, D)
        first.append(1)
        ring.clear()
        self.assertEqual(whole_run(T, D), ([], [("look", 0, "a"), ("look", 1, "a")]))


class LookedTest(unittest.TestCase):

    def test_e03(self):
        self.assertEqual(looked(U, (("ab", "a"), ("", "ba"))), (None, 1))

    def test_by_hand(self):
        self.assertEqual(looked(T, C), (2, 1))
        self.assertEqual(looked(T, D), (None, None))
        self.assertEqual(looked(T, (("aaa", ""), ("", "a"))), (3, 3))
        self.assertEqual(looked(T, (("", ""), ("", "a"))), (0, 0))
        self.assertEqual(looked(U, (("", ""), ("aab", ""))), (0, 3))
        self.assertEqual(looked(Plan(2, 1, (STOP,)), D), (0, 0))

    def test_by_chance(self):
        rng = seeded(13)
        for _ in range(300):
            plan = random_plan(rng)
            contents = random_contents(rng, plan.rows, plan.letters)
            first, ring = whole_run(plan, contents)
            told = []
            for row in range(plan.rows):
                seen = [event for event in first + ring * 40 if event[0] == "look" and event[1] == row]
                letters = [event for event in seen if event[2] != "end"]
                told.append(None if len(letters) >= 40 else len(letters))
            self.assertEqual(looked(plan, contents), tuple(told))
