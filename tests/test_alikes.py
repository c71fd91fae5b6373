"""3.1 and 3.2: plans compared, and clean plans."""

import unittest

from tests import naive
from tests.things import P, STOP, T, U, odd_things, random_plan, seeded
from wholewalks.alikes import alike, clean, parting
from wholewalks.contents import is_content
from wholewalks.errors import Idle, OtherPlan
from wholewalks.joining import behind, beside, renumbered
from wholewalks.plans import Plan
from wholewalks.running import events


def changed(rng, plan):
    """A plan with one thing of a standing changed, by chance."""
    while True:
        table = list(plan.table)
        at = rng.randrange(len(table))
        item = table[at]
        if item[0] == "look":
            nexts = list(item[2])
            nexts[rng.randrange(len(nexts))] = rng.randrange(len(table))
            table[at] = ("look", item[1], tuple(nexts))
        elif item[0] == "say":
            table[at] = ("say", rng.choice(("x", "y")), rng.randrange(len(table)))
        try:
            return Plan(plan.rows, plan.letters, tuple(table))
        except Idle:
            pass


class AlikeTest(unittest.TestCase):

    def differ(self, one, other):
        self.assertIs(alike(one, other), False)
        self.assertIs(alike(other, one), False)
        contents = parting(one, other)
        self.assertIsInstance(contents, tuple)
        self.assertEqual(len(contents), one.rows)
        self.assertTrue(all(is_content(content) for content in contents))
        self.assertNotEqual(events(one, contents, 10000), events(other, contents, 10000))
        return contents

    def same(self, one, other):
        self.assertIs(alike(one, other), True)
        self.assertIs(alike(other, one), True)
        self.assertIsNone(parting(one, other))

    def test_e04(self):
        self.assertIs(alike(T, renumbered(T, (1, 0))), False)
        self.differ(T, renumbered(T, (1, 0)))

    def test_written_otherwise(self):
        self.same(T, T)
        self.same(T, Plan(2, 1, T.table))
        self.same(T, Plan(2, 1, (("look", 0, (3, 2)), ("say", "x", 0), STOP, ("look", 1, (4, 2)), ("look", 0, (3, 5)),
                                 STOP)))
        # A row that has ended is looked at again, to no end.
        one = Plan(1, 1, (("look", 0, (0, 1)), STOP))
        self.same(one, Plan(1, 1, (("look", 0, (0, 1)), ("look", 0, (0, 2)), ("look", 0, (1, 3)), STOP)))

    def test_parted_only_behind_an_end(self):
        one = Plan(2, 1, (("look", 0, (0, 1)), ("look", 1, (1, 2)), STOP))
        other = Plan(2, 1, (("look", 0, (0, 1)), ("look", 1, (1, 2)), ("say", "x", 3), STOP))
        contents = self.differ(one, other)
        self.assertEqual(events(one, contents, 10000)[-1], STOP)
        # What is done behind an end alone, when the row is looked at again.
        one = Plan(1, 1, (("look", 0, (0, 1)), ("look", 0, (0, 2)), STOP))
        other = Plan(1, 1, (("look", 0, (0, 1)), ("look", 0, (0, 2)), ("say", "x", 3), STOP))
        self.differ(one, other)

    def test_parted_by_words(self):
        self.differ(Plan(1, 1, (("say", "x", 1), STOP)), Plan(1, 1, (("say", "y", 1), STOP)))
        self.differ(Plan(1, 1, (("say", "x", 1), STOP)), Plan(1, 1, (STOP,)))
        self.differ(Plan(1, 1, (("look", 0, (0, 1)), STOP)), Plan(1, 1, (STOP,)))

    def test_parted_behind_many_events(self):
        letters = tuple([("look", 0, (at + 1, at + 1, 29)) for at in range(29)])
        one = Plan(1, 2, letters + (STOP,))
        for _ in range(4):
            one = behind(one, Plan(1, 2, letters + (STOP,)))
        short = ("look", 0, (28, 29, 29))
        other = behind(behind(behind(behind(Plan(1, 2, letters + (STOP,)), Plan(1, 2, letters + (STOP,))),
                                     Plan(1, 2, letters + (STOP,))), Plan(1, 2, letters + (STOP,))),
                       Plan(1, 2, letters[:27] + (short, ("say", "x", 29), STOP)))
        contents = self.differ(one, other)
        at = [a == b for a, b in zip(events(one, contents, 10000), events(other, contents, 10000))].index(False)
        self.assertEqual(at, 4 * 29 + 28)

    def test_words_of_what_is_never_met(self):
        self.same(Plan(1, 1, (STOP, ("say", "x", 1))), Plan(1, 1, (STOP,)))

    def test_by_chance(self):
        rng = seeded(20)
        unlike = 0
        for _ in range(300):
            one = random_plan(rng, rows=rng.randint(1, 2), letters=rng.randint(1, 2))
            other = changed(rng, one) if rng.random() < 0.7 else random_plan(rng, one.rows, one.letters)
            if naive.cleaned(one) == naive.cleaned(other):
                self.same(one, other)
            else:
                unlike += 1
                self.differ(one, other)
        self.assertTrue(80 < unlike < 280)

    def test_other_plans(self):
        self.same(Plan(3, 3, (STOP,)), Plan(3, 3, (STOP,)))
        stop = Plan(2, 1, (STOP,))
        for other in [Plan(1, 1, (STOP,)), Plan(3, 1, (STOP,)), Plan(2, 2, (STOP,)), Plan(1, 2, (STOP,))] + odd_things():
            if other is not T:
                for told in (alike, parting):
                    with self.assertRaises(OtherPlan):
                        told(stop, other)
                    with self.assertRaises(OtherPlan):
                        told(other, stop)
        with self.assertRaises(OtherPlan):
            alike(T, P)


class CleanTest(unittest.TestCase):

    def test_e04(self):
        self.assertIs(clean(T) == T, True)

    def test_by_hand(self):
        self.assertEqual(clean(U).table, (
            ("look", 0, (0, 1, 2)), ("look", 1, (1, 3, 4)), ("look", 1, (2, 2, 5)), ("look", 0, (3, 3, 2)),
            ("look", 0, (4, 4, 5)), STOP))

    def test_standings_never_met(self):
        plan = Plan(1, 1, (("look", 0, (3, 3)), ("say", "x", 1), ("look", 0, (2, 2)), STOP))
        self.assertEqual(clean(plan), Plan(1, 1, (("look", 0, (1, 1)), STOP)))

    def test_rows_that_have_ended_are_not_looked_at(self):
        plan = Plan(1, 2, (("look", 0, (0, 0, 1)), ("look", 0, (0, 0, 2)), ("look", 0, (1, 1, 3)), ("say", "x", 4), STOP))
        self.assertEqual(clean(plan), Plan(1, 2, (("look", 0, (0, 0, 1)), ("say", "x", 2), STOP)))

    def test_one_class(self):
        plan = Plan(1, 2, (("look", 0, (1, 2, 3)), ("look", 0, (2, 1, 4)), ("look", 0, (0, 0, 3)), ("say", "x", 5),
                           ("say", "x", 6), STOP, STOP))
        self.assertEqual(clean(plan), Plan(1, 2, (("look", 0, (0, 0, 1)), ("say", "x", 2), STOP)))
        # A row that has ended and one that is never looked at any more come to the same.
        plan = Plan(2, 1, (("look", 0, (1, 2)), ("say", "x", 3), ("say", "x", 4), ("look", 1, (3, 5)),
                           ("look", 1, (4, 5)), STOP))
        self.assertEqual(clean(plan), Plan(2, 1, (("look", 0, (1, 1)), ("say", "x", 2), ("look", 1, (2, 3)), STOP)))

    def test_the_order_of_the_standings(self):
        plan = Plan(2, 2, (("look", 1, (5, 3, 1)), STOP, ("say", "b", 4), ("say", "c", 4), ("look", 0, (3, 2, 1)),
                           ("say", "b", 4)))
        self.assertEqual(clean(plan).table, (("look", 1, (1, 2, 3)), ("say", "b", 4), ("say", "c", 4), STOP,
                                             ("look", 0, (2, 1, 3))))

    def test_rows_and_letters_stay(self):
        self.assertEqual(clean(Plan(6, 3, (STOP, STOP))), Plan(6, 3, (STOP,)))

    def test_by_chance(self):
        rng = seeded(21)
        for _ in range(300):
            plan = random_plan(rng)
            found = clean(plan)
            self.assertEqual(found.table, naive.cleaned(plan))
            self.assertEqual((found.rows, found.letters), (plan.rows, plan.letters))
            self.assertEqual(clean(found), found)
            self.assertIs(alike(plan, found), True)

    def test_plans_are_alike_if_their_clean_ones_are_equal(self):
        rng = seeded(22)
        for _ in range(300):
            one = random_plan(rng, rows=2, letters=1, many=4)
            other = changed(rng, one)
            self.assertIs(alike(one, other), clean(one) == clean(other))

    def test_more_standings_than_a_plan_may_have(self):
        table = [("look", at % 6, ((at * 7 + 3) % 29, (at * 11 + 5) % 29, at + 1)) for at in range(29)]
        found = clean(Plan(6, 2, tuple(table) + (STOP,)))
        self.assertGreater(len(found.table), 200)
        self.assertEqual(clean(found), found)
        self.assertIs(alike(found, Plan(6, 2, tuple(table) + (STOP,))), True)

    def test_long_chains(self):
        plan = Plan(1, 1, (("say", "x", 1), ("look", 0, (2, 2)), STOP))
        for _ in range(11):
            plan = behind(plan, plan)
        found = clean(plan)
        # While the row goes on each has a say and a look, behind its end a say alone but for the first; and a stop.
        self.assertEqual(len(found.table), 2048 * 2 + 2047 + 1)
        self.assertEqual(clean(found), found)

    def test_many_rows(self):
        plan = T
        for _ in range(4):
            plan = beside(plan, plan)
        found = clean(plan)
        self.assertEqual((found.rows, len(found.table)), (32, 33))
        self.assertIs(alike(plan, found), True)
