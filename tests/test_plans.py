"""2.1 and 2.2: plans, phases, steps, and what 0.3 and 0.4 say of them."""

import unittest

from tests import naive
from tests.things import P, STOP, T, U, odd_things, random_plan, random_table, seeded
from wholewalks.errors import BadPlan, Idle, NoPhase
from wholewalks.plans import Plan, phases, steps

ONE = (STOP,)


class PlanTest(unittest.TestCase):

    def bad(self, part, *parts):
        with self.assertRaises(BadPlan) as caught:
            Plan(*parts)
        self.assertEqual(caught.exception.part, part)

    def test_attributes(self):
        table = (("look", 1, (0, 1, 2)), ("say", "abcdefgh", 2), STOP)
        plan = Plan(2, 2, table)
        self.assertEqual((plan.rows, plan.letters, plan.table), (2, 2, table))
        self.assertEqual(sorted(vars(plan)), ["letters", "rows", "table"])

    def test_least_and_greatest(self):
        for rows in (1, 6):
            for letters in (1, 3):
                for many in (1, 30):
                    self.assertEqual(len(Plan(rows, letters, (STOP,) * many).table), many)
        Plan(6, 3, (("look", 5, (0, 29, 29, 29)),) + (("say", "z", 29),) * 28 + (STOP,))

    def test_rows(self):
        for rows in [0, 7, -1, True, None, "1", (1,), 10 ** 39, b"1", [1], {}] + odd_things():
            self.bad("rows", rows, 1, ONE)

    def test_letters(self):
        for letters in [0, 4, -1, True, None, "abc", (1,), 10 ** 39, [1]] + odd_things():
            self.bad("letters", 1, letters, ONE)

    def test_table(self):
        for table in [(), (STOP,) * 31, [STOP], STOP, ("stop"), [], None, {0: STOP}, (STOP, None)] + odd_things():
            self.bad("table", 1, 1, table)

    def test_items(self):
        wrong = [["stop"], ("stop", 0), ("stop", ()), "stop", ("Stop",), (), ("halt",), (None,), None, 0, (["stop"],),
                 ("look", 0), ("look", 0, (0, 0), 0), ("look", 2, (0, 0)), ("look", -1, (0, 0)), ("look", True, (0, 0)),
                 ("look", None, (0, 0)), ("look", 0, [0, 0]), ("look", 0, (0,)), ("look", 0, (0, 0, 0)), ("look", 0, 0),
                 ("look", 0, (0, 2)), ("look", 0, (-1, 0)), ("look", 0, (False, 0)), ("look", 0, (0, True)),
                 ("look", 0, (0, None)), ("look", 0, (0, (0,))), ["look", 0, (0, 0)], ("look", 10 ** 39, (0, 0)),
                 ("look", 0, (0, 10 ** 39)), ("look", "0", (0, 0)), (b"stop",), ("begin", 0, (0, 0)),
                 ("say", "", 0), ("say", "abcdefghi", 0), ("say", "A", 0), ("say", "a b", 0), ("say", "a1", 0),
                 ("say", "a", 2), ("say", "a", -1), ("say", "a", False), ("say", "a", None), ("say", "a", (0,)),
                 ("say", b"a", 0), ("say", None, 0), ("say", ("a",), 0), ("say", "a"), ("say", "a", 0, 0), ["say", "a", 0],
                 ("say", "a", 10 ** 39), ("say", "a\n", 0), ("say", "a ", 0), ("say", 0, 0)]
        for item in wrong + odd_things():
            self.bad("table", 2, 1, (STOP, item))
            self.bad("table", 2, 1, (item, STOP))

    def test_the_first_part_that_is_wrong(self):
        self.bad("rows", 0, 0, None)
        self.bad("rows", True, 1, None)
        self.bad("letters", 1, 0, None)
        self.bad("letters", 6, "a", ONE)
        self.bad("table", 1, 1, (("say", "x", 0), None))

    def test_equal(self):
        self.assertTrue(T == Plan(2, 1, T.table))
        self.assertFalse(T != Plan(2, 1, T.table))
        self.assertFalse(T == Plan(3, 1, T.table))
        self.assertFalse(Plan(1, 1, ONE) == Plan(1, 2, ONE))
        self.assertFalse(Plan(1, 1, ONE) == Plan(1, 1, ONE * 2))
        self.assertTrue(T != U)

    def test_equal_to_nothing_else(self):
        class Other(Plan):
            pass

        for thing in odd_things():
            if thing is not T:
                self.assertIs(T == thing, False)
                self.assertIs(thing == T, False)
        self.assertNotEqual(T, (2, 1, T.table))
        self.assertNotEqual(T, P)
        self.assertNotEqual(T, Other(2, 1, T.table))
        self.assertNotEqual(Other(2, 1, T.table), T)


class IdleTest(unittest.TestCase):

    def ring(self, rows, letters, table):
        with self.assertRaises(Idle) as caught:
            Plan(rows, letters, table)
        ring = caught.exception.ring
        self.assertTrue(naive.is_ring(rows, letters, table, ring), ring)
        return ring

    def test_a_say_that_leads_to_itself(self):
        self.assertEqual(self.ring(1, 1, (("say", "x", 0),)), ((0, ()),))

    def test_says_that_lead_round(self):
        ring = self.ring(1, 1, (("say", "x", 1), ("say", "y", 2), ("say", "z", 1)))
        self.assertEqual(sorted(ring), [(1, ()), (2, ())])

    def test_a_look_at_a_row_that_has_ended(self):
        self.assertEqual(self.ring(1, 1, (("look", 0, (0, 0)),)), ((0, (0,)),))
        self.assertEqual(self.ring(2, 2, (("look", 1, (0, 0, 0)),)), ((0, (1,)),))

    def test_looks_at_rows_that_have_ended(self):
        ring = self.ring(2, 1, (("look", 0, (0, 1)), ("look", 1, (1, 0))))
        self.assertEqual(sorted(ring), [(0, (0, 1)), (1, (0, 1))])
        ring = self.ring(3, 1, (("look", 2, (0, 1)), ("look", 1, (1, 2)), ("look", 0, (2, 3)), ("say", "x", 0)))
        self.assertEqual(sorted(ring), [(0, (0, 1, 2)), (1, (0, 1, 2)), (2, (0, 1, 2)), (3, (0, 1, 2))])

    def test_a_ring_that_is_never_met(self):
        for tail in [(("say", "x", 1),), (("say", "x", 2), ("say", "x", 1)), (("look", 0, (1, 1)),)]:
            table = (STOP,) + tail
            self.assertEqual(Plan(1, 1, table).table, table)
        table = (("look", 0, (0, 1)), ("look", 0, (2, 3)), ("say", "x", 2), STOP)
        self.assertEqual(phases(Plan(1, 1, table)), [(0, ()), (1, (0,)), (3, (0,))])

    def test_a_ring_behind_letters(self):
        ring = self.ring(1, 1, (("look", 0, (1, 3)), ("look", 0, (2, 3)), ("say", "x", 2), STOP))
        self.assertEqual(ring, ((2, ()),))

    def test_letters_lead_round_rightly(self):
        Plan(1, 1, (("look", 0, (0, 1)), STOP))
        Plan(1, 1, (("look", 0, (1, 2)), ("say", "x", 0), STOP))
        Plan(2, 1, (("look", 0, (0, 1)), ("look", 1, (0, 2)), STOP))

    def test_a_ring_by_ends_among_letters(self):
        # When row 0 has ended row 1 is read on, and the ring does have a letter.
        Plan(2, 1, (("look", 0, (0, 1)), ("look", 1, (0, 2)), ("say", "x", 3), STOP))
        self.ring(2, 1, (("look", 0, (0, 1)), ("look", 1, (0, 0)), ("say", "x", 3), STOP))

    def test_table_comes_before_idle(self):
        with self.assertRaises(BadPlan):
            Plan(1, 1, (("say", "x", 0), ("say", "x", 2)))

    def test_by_chance(self):
        rng = seeded(6)
        rings = 0
        for _ in range(1500):
            rows, letters, many = rng.randint(1, 3), rng.randint(1, 2), rng.randint(1, 5)
            table = random_table(rng, rows, letters, many)
            try:
                plan = Plan(rows, letters, table)
            except Idle as error:
                rings += 1
                self.assertTrue(naive.is_ring(rows, letters, table, error.ring))
                continue
            for phase in naive.all_phases(plan):
                for _ in range(many + 1):
                    single = [to for sign, to in naive.phase_steps(plan, phase) if sign is None]
                    phase = single[0] if single else None
                    if phase is None:
                        break
                self.assertIsNone(phase, table)
        self.assertGreater(rings, 300)


class PhasesTest(unittest.TestCase):

    def test_by_hand(self):
        self.assertEqual(phases(T), [(0, ()), (1, ()), (2, (0,)), (2, (1,))])
        self.assertEqual(steps(T, (0, ())), [("a", (1, ())), ("end", (2, (0,)))])
        self.assertEqual(steps(T, (2, (1,))), [])
        self.assertEqual(phases(U)[:4], [(0, ()), (1, ()), (1, (0,)), (2, ())])
        self.assertEqual(steps(U, (2, (0,))), [(None, (3, (0,)))])
        self.assertEqual(steps(U, (3, (0,))), [("a", (3, (0,))), ("b", (3, (0,))), ("end", (4, (0, 1)))])
        plan = Plan(1, 3, (("say", "x", 1), ("look", 0, (2, 1, 2, 2)), STOP))
        self.assertEqual(phases(plan), [(0, ()), (1, ()), (2, ()), (2, (0,))])
        self.assertEqual(steps(plan, (0, ())), [(None, (1, ()))])
        self.assertEqual(steps(plan, (1, ())), [("a", (2, ())), ("b", (1, ())), ("c", (2, ())), ("end", (2, (0,)))])

    def test_ended_rows_ascend(self):
        plan = Plan(6, 1, (("look", 5, (5, 1)), ("look", 3, (5, 2)), ("look", 4, (5, 3)), ("look", 0, (5, 4)),
                           ("look", 2, (5, 5)), STOP))
        self.assertIn((5, (0, 2, 3, 4, 5)), phases(plan))
        self.assertEqual(steps(plan, (3, (3, 4, 5)))[1], ("end", (4, (0, 3, 4, 5))))

    def test_by_chance(self):
        rng = seeded(7)
        for _ in range(300):
            plan = random_plan(rng)
            self.assertEqual(phases(plan), naive.all_phases(plan))
            for phase in phases(plan):
                self.assertEqual(steps(plan, phase), naive.phase_steps(plan, phase))

    def test_the_greatest(self):
        rng = seeded(8)
        table = [("look", at % 6, tuple([rng.randrange(30) for _ in range(3)]) + (at + 1,)) for at in range(29)]
        plan = Plan(6, 3, tuple(table) + (STOP,))
        self.assertEqual(phases(plan), naive.all_phases(plan))
        self.assertGreater(len(phases(plan)), 1000)

    def test_no_phase(self):
        wrong = [(0, (0,)), (1, (0,)), (2, ()), (2, (0, 1)), (2, (1, 0)), (3, ()), (-1, ()), (0,), (0, (), ()), [0, ()],
                 (0, []), (2, [0]), (False, ()), (2, (False,)), (2, (True,)), (True, ()), (2, (0, 0)), (2, (-1,)),
                 (2, (2,)), (2, (10 ** 39,)), (10 ** 39, ()), ("0", ()), (0, None), (None, ()), (0, ""), (0, ((),)), 0, ()]
        for thing in wrong + odd_things():
            with self.assertRaises(NoPhase):
                steps(T, thing)

    def test_new_lists(self):
        phases(T).append(None)
        steps(T, (0, ())).append(None)
        self.assertEqual(len(phases(T)), 4)
        self.assertEqual(len(steps(T, (0, ()))), 2)
