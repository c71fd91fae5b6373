"""13.1: the bench."""

import unittest

from tests import naive
from tests.things import STOP, T, U, nested, odd_things, random_plan, seeded
from wholewalks.bench import Bench
from wholewalks.errors import BadPlan, Idle, NoDealing, NoPlace, NoRow, NoStanding, NothingDone, WalkError
from wholewalks.hands import fewest_hands, least_dealing
from wholewalks.joining import beside
from wholewalks.once import crosses
from wholewalks.pieces import web
from wholewalks.plans import Plan

WORDY = Plan(2, 1, (("look", 0, (1, 2)), ("say", "x", 0), STOP))
BAD_NUMBERS = [-1, 3, 10 ** 39, True, False, None, "0", (0,), [0], {}]
BAD_ITEMS = [None, 0, "stop", (), ("stop", 0), ["stop"], ("look", 0, (0, 9)), ("look", 2, (0, 0)), ("look", 0, (0,)), ("look", 0, [0, 0]),
             ("look", True, (0, 0)), ("look", 0, (0, True)), ("say", "X", 0), ("say", "x", 9), ("say", "", 0), ("say", "abcdefghi", 0),
             ("say", "x"), ("on", 0, (0, 0)), (b"stop",)]


def seen(bench):
    """All that can be asked of a bench."""
    plan = bench.plan()
    return (plan.rows, plan.letters, plan.table, bench.web(), bench.fewest(), bench.crosses(), bench.dealt(), bench.joined(), bench.changes())


class Case(unittest.TestCase):

    def raises(self, error, bench, name, *parts):
        before = seen(bench)
        with self.assertRaises(error) as caught:
            getattr(bench, name)(*parts)
        self.assertEqual(seen(bench), before)
        return caught.exception


class ChangesTest(Case):

    def test_at_first(self):
        for plan in (T, U, WORDY):
            bench = Bench(plan)
            self.assertTrue(bench.plan() == plan)
            self.assertEqual(seen(bench)[3:], (web(plan), fewest_hands(plan), crosses(plan), least_dealing(plan), [], 0))

    def test_turn(self):
        bench = Bench(T)
        self.assertIsNone(bench.turn(0, 0, 0))
        self.assertEqual(bench.plan().table, (("look", 0, (0, 2)), ("look", 1, (0, 2)), STOP))
        self.assertEqual((bench.web(), bench.fewest(), bench.crosses()), ((), 1, ()))
        bench.turn(0, 1, 1)
        self.assertEqual(bench.plan().table[0], ("look", 0, (0, 1)))
        bench = Bench(WORDY)
        bench.turn(1, 0, 2)
        self.assertEqual(bench.plan().table[1], ("say", "x", 2))
        self.assertEqual(bench.changes(), 1)

    def test_put_and_exchange(self):
        bench = Bench(T)
        # It is never met, so it may lead to itself.
        self.assertIsNone(bench.put(("say", "yes", 3)))
        self.assertEqual(bench.plan().table, T.table + (("say", "yes", 3),))
        self.assertIsNone(bench.exchange(3, ("say", "no", 2)))
        self.assertIsNone(bench.exchange(1, ("look", 1, (3, 3))))
        self.assertEqual(bench.plan().table, (T.table[0], ("look", 1, (3, 3)), STOP, ("say", "no", 2)))

    def test_row(self):
        bench = Bench(T)
        self.assertIsNone(bench.row())
        self.assertEqual((bench.plan().rows, bench.plan().table, bench.dealt()), (3, T.table, (0, 1, 2)))
        bench.put(("look", 2, (0, 0)))
        bench.row()
        self.assertEqual((bench.plan().rows, bench.dealt(), bench.changes()), (4, (0, 1, 2, 3), 3))
        bench = Bench(U)
        bench.row()
        self.assertEqual(bench.dealt(), (0, 0, 1))

    def test_a_dealing_is_held(self):
        bench = Bench(T)
        self.assertIsNone(bench.deal(1, 0))
        self.assertEqual((bench.dealt(), bench.joined()), ((0, 0), [(0, 1)]))
        bench.row()
        bench.row()
        self.assertEqual(bench.dealt(), (0, 0, 1, 2))
        self.raises(NoDealing, bench, "deal", 2, 0)
        bench.deal(3, 0)
        self.assertEqual((bench.dealt(), bench.changes()), ((0, 0, 1, 0), 4))

    def test_deal_leaves_no_hand_out(self):
        bench = Bench(beside(T, T))
        self.assertEqual(bench.dealt(), (0, 1, 0, 1))
        self.raises(NoDealing, bench, "deal", 0, 3)
        bench.deal(0, 2)
        self.assertEqual(bench.dealt(), (2, 1, 0, 1))
        self.raises(NoDealing, bench, "deal", 2, 1)
        bench.deal(3, 2)
        self.assertEqual((bench.dealt(), bench.joined()), ((2, 1, 0, 2), []))
        bench.deal(0, 1)
        self.assertEqual((bench.dealt(), bench.joined()), ((1, 1, 0, 2), [(0, 1)]))
        # A deal that changes nothing is one, too.
        bench.deal(0, 1)
        self.assertEqual(bench.changes(), 4)

    def test_joined_is_a_new_list(self):
        bench = Bench(T)
        bench.deal(1, 0)
        bench.joined().clear()
        self.assertEqual(bench.joined(), [(0, 1)])

    def test_by_chance(self):
        rng = seeded(160)
        done = 0
        for _ in range(60):
            bench = Bench(random_plan(rng))
            past = []
            for _ in range(rng.randint(3, 25)):
                plan = bench.plan()
                before = seen(bench)
                kind = rng.choice(("turn", "put", "exchange", "row", "deal", "back"))
                parts = {"turn": (rng.randrange(len(plan.table)), rng.randrange(plan.letters + 1), rng.randrange(len(plan.table))),
                         "put": (("say", "x", rng.randrange(len(plan.table) + 1)),),
                         "exchange": (rng.randrange(len(plan.table)), ("look", rng.randrange(plan.rows), tuple(
                             [rng.randrange(len(plan.table)) for _ in range(plan.letters + 1)]))),
                         "deal": (rng.randrange(plan.rows), rng.randrange(plan.rows))}.get(kind, ())
                try:
                    self.assertIsNone(getattr(bench, kind)(*parts))
                except WalkError:
                    self.assertEqual(seen(bench), before)
                    continue
                done += 1
                if kind == "back":
                    self.assertEqual(seen(bench), past.pop())
                else:
                    past.append(before)
                plan = bench.plan()
                self.assertEqual(bench.changes(), len(past))
                self.assertEqual(bench.web(), naive.joined_rows(plan))
                self.assertEqual(bench.joined(), [(r, s) for r, s in naive.joined_rows(plan) if bench.dealt()[r] == bench.dealt()[s]])
            while past:
                bench.back()
                self.assertEqual(seen(bench), past.pop())
        self.assertGreater(done, 250)


class ErrorsTest(Case):

    def test_no_standing(self):
        bench = Bench(T)
        for standing in BAD_NUMBERS + odd_things():
            self.raises(NoStanding, bench, "turn", standing, 9, None)
            self.raises(NoStanding, bench, "exchange", standing, None)

    def test_no_place(self):
        for place in [-1, 2, 10 ** 39, True, False, None, "0", (0,)] + odd_things():
            self.raises(NoPlace, Bench(T), "turn", 0, place, 9)
            self.raises(NoPlace, Bench(T), "turn", 1, place, 0)
        self.raises(NoPlace, Bench(T), "turn", 2, 0, 0)
        self.raises(NoPlace, Bench(WORDY), "turn", 1, 1, 0)
        self.raises(NoPlace, Bench(WORDY), "turn", 1, False, 0)
        self.raises(NoPlace, Bench(WORDY), "turn", 1, -1, 0)

    def test_bad_plan(self):
        bench = Bench(T)
        for target in BAD_NUMBERS + odd_things():
            self.assertEqual(self.raises(BadPlan, bench, "turn", 0, 0, target).part, "table")
        for target in BAD_NUMBERS:
            self.assertEqual(self.raises(BadPlan, Bench(WORDY), "turn", 1, 0, target).part, "table")
        for item in BAD_ITEMS + odd_things():
            self.assertEqual(self.raises(BadPlan, bench, "put", item).part, "table")
            self.assertEqual(self.raises(BadPlan, bench, "exchange", 1, item).part, "table")
        # A standing behind the last one is there as soon as it is put.
        self.raises(BadPlan, bench, "exchange", 1, ("say", "x", 3))
        bench.put(("say", "x", 3))
        self.raises(BadPlan, bench, "put", ("say", "x", 5))

    def test_idle(self):
        error = self.raises(Idle, Bench(WORDY), "turn", 1, 0, 1)
        self.assertTrue(naive.is_ring(2, 1, (("look", 0, (1, 2)), ("say", "x", 1), STOP), error.ring))
        error = self.raises(Idle, Bench(T), "turn", 0, 1, 0)
        self.assertTrue(naive.is_ring(2, 1, (("look", 0, (1, 0)), ("look", 1, (0, 2)), STOP), error.ring))
        error = self.raises(Idle, Bench(T), "exchange", 2, ("say", "x", 2))
        self.assertTrue(naive.is_ring(2, 1, T.table[:2] + (("say", "x", 2),), error.ring))

    def test_sizes(self):
        bench = Bench(T)
        for _ in range(27):
            bench.put(STOP)
        self.assertEqual(len(bench.plan().table), 30)
        self.assertEqual(self.raises(BadPlan, bench, "put", STOP).part, "table")
        for _ in range(4):
            bench.row()
        self.assertEqual(self.raises(BadPlan, bench, "row").part, "rows")
        self.assertEqual((bench.plan().rows, bench.changes(), bench.dealt()), (6, 31, (0, 1, 2, 3, 4, 5)))

    def test_deal(self):
        bench = Bench(T)
        for row in [-1, 2, 10 ** 39, True, False, None, "0", (0,)] + odd_things():
            self.raises(NoRow, bench, "deal", row, 0)
            self.raises(NoRow, bench, "deal", row, None)
        for hand in [-1, 2, 10 ** 39, True, False, None, "0", (0,), [0]] + odd_things():
            self.raises(NoDealing, bench, "deal", 0, hand)
        # Hand 0 would be left out.
        self.raises(NoDealing, bench, "deal", 0, 1)

    def test_nothing_done(self):
        bench = Bench(T)
        self.raises(NothingDone, bench, "back")
        bench.row()
        bench.back()
        self.raises(NothingDone, bench, "back")


class TryingTest(Case):

    def test_all_is_put_back(self):
        bench = Bench(T)
        bench.row()
        before = seen(bench)

        def action(held):
            self.assertIs(held, bench)
            held.put(("say", "x", 0))
            held.deal(2, 0)
            self.assertEqual(held.changes(), 3)
            for _ in range(3):
                held.back()
            self.assertEqual(held.plan().rows, 2)
            held.turn(0, 0, 0)
            return [held.web(), held.changes()]

        self.assertEqual(bench.trying(action), [(), 1])
        self.assertEqual(seen(bench), before)
        bench.back()
        self.assertTrue(bench.plan() == T)
        self.raises(NothingDone, bench, "back")

    def test_errors_go_on(self):
        bench = Bench(T)
        before = seen(bench)

        def bad(held):
            held.row()
            held.deal(9, 9)

        with self.assertRaises(NoRow):
            bench.trying(bad)
        self.assertEqual(seen(bench), before)

        def worse(held):
            held.row()
            raise KeyError("x")

        with self.assertRaises(KeyError):
            bench.trying(worse)
        self.assertEqual(seen(bench), before)

    def test_tries_within(self):
        bench = Bench(T)

        def inner(held):
            held.row()
            return held.plan().rows

        def outer(held):
            held.row()
            held.row()
            found = [held.trying(inner), held.plan().rows, held.changes()]
            try:
                held.trying(lambda some: some.row() or some.back() or some.back() or some.turn(9, 9, 9))
            except NoStanding:
                found.append(held.plan().rows)
            held.back()
            return found + [held.plan().rows]

        self.assertEqual(bench.trying(outer), [5, 4, 2, 4, 3])
        self.assertEqual((bench.plan().rows, bench.changes()), (2, 0))
        bench.row()
        self.assertEqual(bench.trying(lambda held: held.copy().changes()), 1)

    def test_what_is_tried_later_does_not_mix(self):
        bench = Bench(T)
        for many in (1, 2, 3):
            bench.row()
            kept = bench.trying(lambda held: (held.row() if many < 3 else held.back(), held.copy())[1])
            self.assertEqual(bench.changes(), many)
            self.assertEqual(kept.changes(), many + 1 if many < 3 else many - 1)
            kept.back()
            self.assertEqual(bench.changes(), many)


class CopyTest(Case):

    def test_apart(self):
        bench = Bench(T)
        bench.row()
        other = bench.copy()
        self.assertEqual(seen(other), seen(bench))
        other.deal(2, 0)
        other.turn(0, 0, 0)
        self.assertEqual((bench.changes(), bench.dealt(), bench.plan().table), (1, (0, 1, 2), T.table))
        bench.back()
        self.assertEqual((other.changes(), other.dealt()), (3, (0, 1, 0)))
        for _ in range(3):
            other.back()
        self.assertEqual(seen(other), seen(Bench(T)))
        self.assertEqual(bench.changes(), 0)
        self.raises(NothingDone, other, "back")
        self.assertFalse(bench == other)

    def test_plans_that_were_given_do_not_change(self):
        plan = Plan(2, 1, T.table)
        bench = Bench(plan)
        first = bench.plan()
        bench.row()
        bench.turn(0, 0, 0)
        self.assertTrue(plan == T and first == T)

    def test_large_plans_that_were_returned(self):
        plan = beside(beside(T, T), beside(T, T))
        bench = Bench(plan)
        self.assertEqual((bench.fewest(), bench.dealt()), (2, (0, 1) * 4))
        self.assertEqual((bench.web(), bench.crosses()), (web(plan), crosses(plan)))
        bench.deal(7, 0)
        self.assertEqual(bench.joined(), [(6, 7)])
        # What comes of a change is constructed, so it has no more rows than a plan may have.
        self.assertEqual(self.raises(BadPlan, bench, "turn", 0, 0, 0).part, "rows")
        self.assertEqual(self.raises(BadPlan, bench, "row").part, "rows")

    def test_nested_things(self):
        for thing in (nested((), 40, tuple), nested([], 40, list)):
            self.raises(NoStanding, Bench(T), "turn", thing, 0, 0)
            self.raises(BadPlan, Bench(T), "put", thing)


if __name__ == "__main__":
    unittest.main()
