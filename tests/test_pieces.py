"""6.1 and 6.3: pieces, webs, free dealings, and what is stuck."""

import unittest

from tests import naive
from tests.things import C, D, STOP, T, U, ladder_plan, odd_things, random_dealing, random_plan, seeded
from wholewalks.errors import NoDealing
from wholewalks.joining import behind, beside, renumbered
from wholewalks.pieces import is_free, is_stuck, pieces, stuck, web
from wholewalks.plans import Plan, phases
from wholewalks.running import looked

BAD_DEALINGS = [(0,), (0, 0, 0), (1, 1), (0, 2), (1, 2), (0, -1), (0, True), (False, 0), [0, 0], [0, 1], (0, None), (0, "0"),
                (0, 10 ** 39), (10 ** 39, 10 ** 39), "00", 0, None, {0: 0, 1: 0}, (), ((0,), 0)]
# Ring of rows 0, 1 and 2 in three pieces; they are joined, but no piece has all three.
TRIANGLE = Plan(3, 2, (("look", 0, (1, 2, 2)), ("look", 1, (0, 2, 2)), ("look", 1, (3, 4, 4)), ("look", 2, (2, 4, 4)),
                       ("look", 2, (5, 6, 6)), ("look", 0, (4, 6, 6)), STOP))


class PiecesTest(unittest.TestCase):

    def test_by_hand(self):
        self.assertEqual(pieces(T), [(((0, ()), (1, ())), (0, 1))])
        # Once the first b of row 0 has come it is done with for a while; rows that have ended are looked at no more.
        self.assertEqual(pieces(U), [(((0, ()),), (0,)), (((1, ()),), (1,)), (((1, (0,)),), (1,)), (((2, ()),), (0,)),
                                     (((2, (1,)),), (0,)), (((3, (0,)),), (1,))])

    def test_no_ring(self):
        self.assertEqual(pieces(Plan(1, 1, (STOP,))), [])
        self.assertEqual(pieces(Plan(2, 1, (("look", 0, (1, 1)), ("look", 1, (2, 2)), ("say", "x", 3), STOP))), [])

    def test_one_phase_that_leads_to_itself(self):
        self.assertEqual(pieces(Plan(1, 1, (("look", 0, (0, 1)), STOP))), [(((0, ()),), (0,))])
        self.assertEqual(pieces(Plan(2, 3, (("look", 1, (1, 1, 1, 1)), ("look", 0, (2, 1, 2, 2)), STOP))),
                         [(((1, ()),), (0,)), (((1, (1,)),), (0,))])

    def test_several_rings_in_one_piece(self):
        # Two rings through standing 0; one of them says a word, and looks at row 2.
        plan = Plan(3, 3, (("look", 0, (1, 2, 4, 4)), ("look", 1, (0, 0, 4, 4)), ("say", "x", 3), ("look", 2, (4, 0, 4, 4)), STOP))
        self.assertEqual(pieces(plan), [(((0, ()), (1, ()), (2, ()), (3, ())), (0, 1, 2))])
        self.assertEqual(web(plan), ((0, 1), (0, 2), (1, 2)))

    def test_rows_that_end_and_are_looked_at_again(self):
        # Row 0 has ended when row 1 comes round: the looks at it are steps of the piece, but not by a letter.
        plan = Plan(2, 1, (("look", 0, (1, 1)), ("look", 0, (2, 2)), ("look", 1, (0, 3)), STOP))
        self.assertEqual(pieces(plan), [(((0, ()), (1, ()), (2, ())), (0, 1)), (((0, (0,)), (1, (0,)), (2, (0,))), (1,))])
        plan = Plan(2, 1, (("look", 0, (0, 1)), ("look", 1, (2, 3)), ("look", 0, (3, 1)), STOP))
        self.assertEqual(pieces(plan), [(((0, ()),), (0,)), (((1, (0,)), (2, (0,))), (1,))])
        self.assertEqual(web(plan), ())

    def test_a_look_that_leaves_the_ring_by_each_letter(self):
        # At row 1 only the end leads back, and that is no ring; standing 1 is in no piece.
        plan = Plan(2, 1, (("look", 0, (1, 2)), ("look", 1, (2, 0)), STOP))
        self.assertEqual(pieces(plan), [(((0, (1,)), (1, (1,))), (0,))])
        self.assertEqual(web(plan), ())

    def test_by_chance(self):
        rng = seeded(60)
        met = 0
        for number in range(500):
            plan = random_plan(rng) if number % 2 else ladder_plan(rng, random_dealing(rng, rng.randint(1, 4)), rng.randint(1, 3),
                                                                  rng.randint(1, 4))
            found = naive.all_pieces(plan)
            self.assertEqual(pieces(plan), found)
            self.assertEqual(web(plan), naive.joined_rows(plan))
            met += len(found) > 1
            for piece, rows in found:
                self.assertLessEqual(set(piece), set(phases(plan)))
                self.assertGreater(len(rows), 0)
        self.assertGreater(met, 100)

    def test_plans_that_were_returned(self):
        both = beside(T, T)
        self.assertEqual(web(both), ((0, 1), (2, 3)))
        self.assertEqual(web(behind(both, renumbered(both, (0, 2, 1, 3)))), ((0, 1), (0, 2), (1, 3), (2, 3)))
        six = Plan(6, 1, tuple([("look", row, ((row + 1) % 6, 6)) for row in range(6)]) + (STOP,))
        plan = beside(six, six)
        self.assertEqual(web(plan), tuple([(r, s) for r in range(6) for s in range(r + 1, 6)]
                                          + [(r, s) for r in range(6, 12) for s in range(r + 1, 12)]))

    def test_new_lists(self):
        pieces(T).clear()
        self.assertEqual(len(pieces(T)), 1)


class WebTest(unittest.TestCase):

    def test_e06(self):
        self.assertEqual(web(T), ((0, 1),))
        self.assertEqual(web(U), ())

    def test_by_hand(self):
        self.assertEqual(web(TRIANGLE), ((0, 1), (0, 2), (1, 2)))
        self.assertEqual(web(renumbered(T, (1, 0))), ((0, 1),))
        self.assertEqual(web(Plan(6, 1, (("look", 5, (1, 2)), ("look", 2, (0, 2)), STOP))), ((2, 5),))
        self.assertEqual(web(Plan(1, 1, (STOP,))), ())


class FreeTest(unittest.TestCase):

    def test_by_hand(self):
        self.assertIs(is_free(T, (0, 0)), False)
        self.assertIs(is_free(T, (0, 1)), True)
        self.assertIs(is_free(T, (1, 0)), True)
        self.assertIs(is_free(U, (0, 0)), True)
        self.assertIs(is_free(U, (0, 1)), True)
        for dealing in naive.dealings(3):
            self.assertIs(is_free(TRIANGLE, dealing), len(set(dealing)) == 3)
        self.assertIs(is_free(Plan(1, 1, (STOP,)), (0,)), True)

    def test_no_dealings(self):
        for thing in BAD_DEALINGS + odd_things():
            self.assertIs(is_free(U, thing), False)
            self.assertIs(is_free(T, thing), False)
            with self.assertRaises(NoDealing):
                stuck(U, thing)
            with self.assertRaises(NoDealing):
                stuck(T, thing)
            with self.assertRaises(NoDealing):
                is_stuck(T, thing, None)
        # Hands that are not numbered without gaps.
        for thing in [(0, 2, 0), (1, 2, 1), (1, 1, 1), (2, 1, 3), (0, 1, 3)]:
            self.assertIs(is_free(TRIANGLE, thing), False)
            with self.assertRaises(NoDealing):
                stuck(TRIANGLE, thing)

    def test_by_chance(self):
        rng = seeded(61)
        for _ in range(150):
            plan = random_plan(rng)
            pairs = naive.joined_rows(plan)
            for dealing in naive.dealings(plan.rows):
                self.assertIs(is_free(plan, dealing), all(dealing[r] != dealing[s] for r, s in pairs))


class StuckTest(unittest.TestCase):

    def right(self, plan, dealing):
        """Holds what stuck tells of a dealing that is not free."""
        one, other, contents = stuck(plan, dealing)
        self.assertLess(one, other)
        self.assertEqual(dealing[one], dealing[other])
        self.assertIsNone(looked(plan, contents)[one])
        self.assertIsNone(looked(plan, contents)[other])
        # Plainly seen: ever more letters come.
        for row in (one, other):
            counts = [len([event for event in naive.run_events(plan, contents, many) if event[:2] == ("look", row)])
                      for many in (1000, 2000)]
            self.assertGreater(counts[1], counts[0] + 1)
        self.assertIs(is_stuck(plan, dealing, (one, other, contents)), True)
        self.assertEqual(stuck(plan, dealing), (one, other, contents))
        return (one, other, contents)

    def test_e09(self):
        self.assertEqual(stuck(T, (0, 0))[:2], (0, 1))
        self.assertEqual(self.right(T, (0, 0)), (0, 1, D))

    def test_none_for_free_dealings(self):
        self.assertIsNone(stuck(T, (0, 1)))
        self.assertIsNone(stuck(T, (1, 0)))
        self.assertIsNone(stuck(U, (0, 0)))
        self.assertIsNone(stuck(Plan(1, 1, (STOP,)), (0,)))
        self.assertIsNone(stuck(TRIANGLE, (2, 0, 1)))

    def test_by_hand(self):
        for dealing in naive.dealings(3):
            if len(set(dealing)) < 3:
                self.right(TRIANGLE, dealing)
        # The ring is come to by words, ends and letters of other rows, which are then looked at no more.
        plan = Plan(4, 2, (("say", "x", 1), ("look", 3, (0, 2, 7)), ("look", 0, (2, 7, 3)), ("look", 0, (7, 7, 4)),
                           ("look", 1, (7, 5, 7)), ("say", "y", 6), ("look", 2, (4, 6, 7)), STOP))
        self.assertEqual(self.right(plan, (0, 1, 1, 2))[:2], (1, 2))
        self.assertIsNone(stuck(plan, (0, 0, 1, 0)))

    def test_a_dealing_of_one_row(self):
        plan = Plan(1, 1, (("look", 0, (0, 1)), STOP))
        self.assertIsNone(stuck(plan, (0,)))
        self.assertIs(is_free(plan, (0,)), True)
        self.assertIs(is_stuck(plan, (0,), (0, 0, (("", "a"),))), False)

    def test_is_stuck(self):
        u = renumbered(T, (1, 0))
        right = [(0, 1, D), (0, 1, (("aaa", "aa"), ("a", "aaa")))]
        for thing in right:
            self.assertIs(is_stuck(T, (0, 0), thing), True)
            self.assertIs(is_stuck(u, (0, 0), thing), True)
            self.assertIs(is_stuck(T, (0, 1), thing), False)
        wrong = [(1, 0, D), (0, 0, D), (1, 1, D), (0, 2, D), (-1, 1, D), (False, 1, D), (0, True, D), [0, 1, D], (0, 1, list(D)),
                 (0, 1, C), (0, 1, (("", "a"), ("aaa", ""))), (0, 1, (("", "a"),)), (0, 1, D + D), (0, 1, (("", "b"), ("", "a"))),
                 (0, 1, (("", "a"), ["", "a"])), (0, 1), (0, 1, D, 0), (0, 10 ** 39, D), ("0", 1, D), (0, 1, None), None, D,
                 (10 ** 39, 10 ** 39 + 1, D), (0, None, D)]
        for thing in wrong + odd_things():
            self.assertIs(is_stuck(T, (0, 0), thing), False)
            self.assertIs(is_stuck(T, (0, 1), thing), False)
            self.assertIs(is_stuck(U, (0, 0), thing), False)

    def test_both_rows_must_be_of_one_hand_and_looked_at_for_ever(self):
        contents = (("", "a"), ("", "a"), ("", "a"))
        plan = Plan(3, 1, (("look", 0, (1, 3)), ("look", 1, (2, 3)), ("look", 2, (0, 3)), STOP))
        for dealing in [(0, 0, 1), (0, 1, 0), (1, 0, 0), (0, 0, 0)]:
            for one in range(3):
                for other in range(3):
                    told = one < other and dealing[one] == dealing[other]
                    self.assertIs(is_stuck(plan, dealing, (one, other, contents)), told)
        # Row 0 is looked at once, rows 1 and 2 for ever.
        plan = Plan(3, 1, (("look", 0, (1, 1)), ("look", 1, (2, 3)), ("look", 2, (1, 3)), STOP))
        self.assertIs(is_stuck(plan, (0, 0, 0), (0, 1, contents)), False)
        self.assertIs(is_stuck(plan, (0, 0, 0), (1, 2, contents)), True)

    def test_by_chance(self):
        rng = seeded(62)
        met = 0
        for number in range(400):
            plan = random_plan(rng) if number % 2 else ladder_plan(rng, random_dealing(rng, rng.randint(2, 4)), rng.randint(1, 3),
                                                                  rng.randint(1, 3))
            for _ in range(4):
                dealing = random_dealing(rng, plan.rows)
                if is_free(plan, dealing):
                    self.assertIsNone(stuck(plan, dealing))
                else:
                    met += 1
                    self.right(plan, dealing)
        self.assertGreater(met, 150)

    def test_plans_that_were_returned(self):
        plan = beside(U, beside(TRIANGLE, TRIANGLE))
        self.assertIsNone(stuck(plan, (0, 0, 0, 1, 2, 0, 1, 2)))
        self.assertEqual(self.right(plan, (0, 0, 0, 1, 2, 0, 1, 1))[:2], (6, 7))
