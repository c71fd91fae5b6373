"""3.3: plans put together."""

import unittest

from tests.things import C, P, STOP, T, U, odd_things, random_contents, random_plan, seeded
from tests import naive
from wholewalks.alikes import alike, clean, parting
from wholewalks.errors import NoNumbers, OtherPlan
from wholewalks.joining import behind, beside, renumbered
from wholewalks.plans import Plan, phases, steps
from wholewalks.running import events, looked, whole_run


def without_stop(found):
    return found[:-1] if found and found[-1] == STOP else found


class BehindTest(unittest.TestCase):

    def test_the_table(self):
        self.assertEqual(behind(T, T).table, (("look", 0, (1, 2)), ("look", 1, (0, 2)), ("look", 0, (4, 5)),
                                              ("look", 0, (4, 5)), ("look", 1, (3, 5)), STOP))
        one = Plan(1, 2, (STOP, ("say", "x", 0), STOP))
        other = Plan(1, 2, (("say", "y", 1), ("look", 0, (1, 0, 2)), STOP))
        told = behind(one, other)
        self.assertEqual(told.table, (("say", "y", 4), ("say", "x", 0), ("say", "y", 4), ("say", "y", 4),
                                      ("look", 0, (4, 3, 5)), STOP))
        self.assertEqual((told.rows, told.letters), (1, 2))
        self.assertIsInstance(told, Plan)

    def test_a_stop_behind(self):
        stop = Plan(2, 1, (STOP,))
        self.assertEqual(behind(T, stop).table, T.table + (STOP,))
        self.assertEqual(behind(stop, T).table, (("look", 0, (2, 3)), ("look", 0, (2, 3)), ("look", 1, (1, 3)), STOP))
        self.assertIs(alike(behind(T, stop), T), True)
        self.assertIs(alike(behind(stop, T), T), True)

    def test_rows_go_on_where_they_are(self):
        one = Plan(2, 1, (("look", 0, (1, 1)), STOP))
        two = behind(behind(one, one), T)
        self.assertEqual(events(two, (("aaa", ""), ("a", "")), 99),
                         [("look", 0, "a"), ("look", 0, "a"), ("look", 0, "a"), ("look", 1, "a"), ("look", 0, "end"), STOP])

    def test_a_plan_behind_itself(self):
        twice = behind(T, T)
        self.assertEqual(events(twice, (("aa", ""), ("a", "")), 99), events(T, C, 4) + [("look", 0, "end"), STOP])
        self.assertEqual(phases(twice), naive.all_phases(twice))
        self.assertIs(alike(twice, T), False)
        self.assertIsNotNone(parting(twice, T))

    def test_other_plans(self):
        stop = Plan(2, 1, (STOP,))
        for other in [Plan(1, 1, (STOP,)), Plan(2, 2, (STOP,)), U] + odd_things():
            if other is not T:
                with self.assertRaises(OtherPlan):
                    behind(stop, other)
                with self.assertRaises(OtherPlan):
                    behind(other, stop)
        with self.assertRaises(OtherPlan):
            behind(T, P)

    def test_the_plans_stay(self):
        behind(T, T)
        beside(T, T)
        self.assertEqual((T.rows, T.letters, len(T.table)), (2, 1, 3))

    def test_by_chance(self):
        rng = seeded(30)
        for _ in range(200):
            one = random_plan(rng)
            other = random_plan(rng, one.rows, one.letters)
            plan = behind(one, other)
            contents = random_contents(rng, one.rows, one.letters)
            self.assertEqual(events(plan, contents, 80), naive.run_events(plan, contents, 80))
            self.assertEqual(phases(plan), naive.all_phases(plan))
            self.assertEqual(clean(plan).table, naive.cleaned(plan))
            self.assertIs(alike(plan, behind(clean(one), clean(other))), True)


class BesideTest(unittest.TestCase):

    def test_the_table(self):
        plan = beside(T, Plan(1, 1, (("say", "x", 1), ("look", 0, (0, 2)), STOP)))
        self.assertEqual(plan.table, (("look", 0, (1, 2)), ("look", 1, (0, 2)), ("say", "x", 4), ("say", "x", 4),
                                      ("look", 2, (3, 5)), STOP))
        self.assertEqual((plan.rows, plan.letters), (3, 1))

    def test_a_plan_beside_itself(self):
        plan = beside(T, T)
        self.assertEqual(events(plan, C + C, 99),
                         without_stop(events(T, C, 9)) + [("look", 2, "a"), ("look", 3, "a"), ("look", 2, "a"),
                                                          ("look", 3, "end"), STOP])

    def test_more_rows_than_a_plan_may_have(self):
        great = Plan(6, 3, (("look", 5, (0, 1, 1, 2)), ("say", "x", 0), STOP))
        plan = beside(beside(great, great), beside(great, great))
        self.assertEqual(plan.rows, 24)
        contents = (("", ""),) * 5 + (("ab", ""),)
        found = events(plan, contents * 4, 99)
        self.assertEqual(found[4:6], [("look", 11, "a"), ("look", 11, "b")])
        self.assertEqual(len(found), 17)
        self.assertEqual(looked(plan, contents * 4), (0, 0, 0, 0, 0, 2) * 4)
        self.assertEqual(whole_run(plan, contents * 3 + (("", "a"),) * 6)[1], [("look", 23, "a")])
        self.assertEqual(steps(plan, (0, ()))[3], ("end", (2, (5,))))
        self.assertEqual(steps(plan, (11, (5, 11, 17, 23))), [])
        self.assertIn((11, (5, 11, 17, 23)), phases(plan))
        self.assertEqual(len(clean(plan).table), 9)
        self.assertEqual(renumbered(plan, tuple(range(23, -1, -1))).table[0], ("look", 18, (0, 1, 1, 2)))

    def test_behind_and_beside_in_turn(self):
        plan = beside(behind(T, T), behind(T, T))
        again = behind(plan, plan)
        self.assertEqual(len(again.table), 24)
        self.assertIs(alike(again, behind(plan, beside(behind(T, T), behind(T, T)))), True)
        self.assertIs(alike(again, plan), False)
        rng = seeded(31)
        for _ in range(30):
            contents = random_contents(rng, 4, 1)
            self.assertEqual(events(again, contents, 200), naive.run_events(again, contents, 200))

    def test_other_plans(self):
        self.assertEqual(beside(T, Plan(1, 1, (STOP,))).rows, 3)
        stop = Plan(2, 1, (STOP,))
        for other in [U, Plan(2, 3, (STOP,))] + odd_things():
            if other is not T:
                with self.assertRaises(OtherPlan):
                    beside(stop, other)
                with self.assertRaises(OtherPlan):
                    beside(other, stop)

    def test_by_chance(self):
        rng = seeded(32)
        for _ in range(150):
            one = random_plan(rng)
            other = random_plan(rng, letters=one.letters)
            plan = beside(one, other)
            contents = random_contents(rng, plan.rows, plan.letters)
            first = events(one, contents[:one.rows], 150)
            told = without_stop(first)
            if first[-1] == STOP:
                for event in events(other, contents[one.rows:], 150):
                    told = told + [("look", event[1] + one.rows, event[2]) if event[0] == "look" else event]
            self.assertEqual(events(plan, contents, 150), told[:150])


class RenumberedTest(unittest.TestCase):

    def test_by_hand(self):
        self.assertEqual(renumbered(T, (1, 0)).table, (("look", 1, (1, 2)), ("look", 0, (0, 2)), STOP))
        self.assertEqual(renumbered(T, (0, 1)), T)
        plan = Plan(3, 1, (("look", 0, (1, 1)), ("look", 1, (2, 2)), ("look", 2, (3, 3)), ("say", "x", 4), STOP))
        self.assertEqual([item[1] for item in renumbered(plan, (2, 0, 1)).table[:4]], [2, 0, 1, "x"])

    def test_no_numbers(self):
        for numbers in [(0,), (0, 1, 2), (0, 0), (1, 2), (-1, 0), [1, 0], (True, False), (True, 0), (0, True), (1, None),
                        ("0", "1"), 10, None, "10", ((0,), (1,)), (0, 10 ** 39), {0: 1, 1: 0}, range(2)] + odd_things():
            with self.assertRaises(NoNumbers):
                renumbered(T, numbers)

    def test_by_chance(self):
        rng = seeded(33)
        for _ in range(100):
            plan = random_plan(rng)
            numbers = list(range(plan.rows))
            rng.shuffle(numbers)
            moved = renumbered(plan, tuple(numbers))
            contents = random_contents(rng, plan.rows, plan.letters)
            others = [None] * plan.rows
            for row, number in enumerate(numbers):
                others[number] = contents[row]
            told = [("look", numbers[event[1]], event[2]) if event[0] == "look" else event
                    for event in events(plan, contents, 60)]
            self.assertEqual(events(moved, tuple(others), 60), told)
