"""9.2 and 9.3: rows that cross, and programs that walk each row once."""

import unittest

from tests import naive
from tests.test_making import forward_plan
from tests.things import (C, D, P, STOP, T, U, ladder_plan, lasting_program, odd_things, random_contents, random_dealing,
                          random_plan, random_program, seeded, talking_plan, talking_program)
from wholewalks.errors import Free, NoDealing, NoRow, NotFree, OtherPlan, TooMany
from wholewalks.hands import fewest_hands
from wholewalks.joining import behind, beside, renumbered
from wholewalks.leading import once_events, program_events
from wholewalks.making import made
from wholewalks.once import (broken_once, crosses, crossing, fewest_once, is_broken_once, is_crossing, least_once, made_once)
from wholewalks.pieces import web
from wholewalks.plans import Plan
from wholewalks.programs import Program
from wholewalks.running import events

BAD_ROWS = [-1, 2, 10 ** 39, True, False, None, "0", (0,), [0], {}]
BAD_DEALINGS = [(0,), (0, 0, 0), (1, 1), (0, 2), (1, 2), (0, -1), (0, True), (False, 0), [0, 0], [0, 1], (0, None), (0, "0"),
                (0, 10 ** 39), "00", 0, None, {0: 0, 1: 0}, ()]


def looks_in_order(rows, letters, *order):
    """A plan that looks at rows in this order, by whatever letter; a stop follows, and each end leads there."""
    many = len(order)
    table = tuple([("look", row, (at + 1,) * letters + (at + 1,)) for at, row in enumerate(order)])
    return Plan(rows, letters, table + (STOP,)) if many else Plan(rows, letters, (STOP,))


def rungs_in_order(rows, order):
    """A plan that looks at rows in this order, at each to its next b."""
    return Plan(rows, 2, tuple([("look", row, (at, at + 1, at + 1)) for at, row in enumerate(order)]) + (STOP,))


class CrossesTest(unittest.TestCase):

    def test_e08(self):
        self.assertEqual(crosses(U), ((0, 1),))
        self.assertEqual(fewest_once(U), 2)

    def test_by_hand(self):
        self.assertEqual(crosses(T), ((0, 1),))
        self.assertEqual(crosses(Plan(1, 1, (STOP,))), ())
        self.assertEqual(crosses(looks_in_order(2, 1, 0, 1, 0, 1)), ((0, 1),))
        self.assertEqual(crosses(looks_in_order(2, 1, 1, 0, 1, 0)), ((0, 1),))
        self.assertEqual(crosses(looks_in_order(2, 1, 0, 1, 0)), ())
        self.assertEqual(crosses(looks_in_order(2, 1, 1, 0, 0, 1, 1)), ())
        self.assertEqual(crosses(looks_in_order(3, 1, 0, 2, 1, 0, 1, 2)), ((0, 1), (0, 2)))
        # Looks at row 2 between them.
        self.assertEqual(crosses(looks_in_order(3, 1, 2, 0, 2, 1, 2, 0, 2, 1)), ((0, 1), (0, 2), (1, 2)))

    def test_the_last_look_may_be_at_the_end(self):
        # Each row is looked at until it ends: row 1 is looked at between two looks at row 0, and comes once more behind.
        plan = Plan(2, 1, (("look", 0, (1, 1)), ("look", 1, (2, 2)), ("look", 0, (3, 3)), ("look", 1, (4, 4)), STOP))
        self.assertEqual(crosses(plan), ((0, 1),))
        contents, places = crossing(plan, 0, 1)
        self.assertEqual(events(plan, contents, 9)[places[3]], ("look", 1, "end"))

    def test_rows_that_cross_only_behind_an_end(self):
        # Behind the end of row 2 rows 0 and 1 are looked at by turns; by a letter the plan stops.
        plan = Plan(3, 1, (("look", 2, (5, 1)), ("look", 0, (2, 2)), ("look", 1, (3, 3)), ("look", 0, (4, 4)), ("look", 1, (5, 5)),
                           STOP))
        self.assertEqual(crosses(plan), ((0, 1),))
        self.assertEqual(crossing(plan, 0, 1)[0][2], ("", ""))

    def test_looks_at_a_row_that_has_ended_are_none(self):
        # Row 0 is left by its end alone: the later looks at it are no events.
        plan = Plan(2, 1, (("look", 0, (0, 1)), ("look", 1, (2, 2)), ("look", 0, (3, 3)), ("look", 1, (4, 4)), STOP))
        self.assertEqual(crosses(plan), ())
        plan = Plan(2, 1, (("look", 0, (1, 4)), ("look", 1, (1, 2)), ("look", 0, (2, 3)), ("look", 1, (4, 4)), STOP))
        self.assertEqual(crosses(plan), ())

    def test_rows_that_cross_on_one_word_alone(self):
        # Only abba of row 0 leads on; everything else stops.
        table = [("look", 0, (1, 9, 9)), ("look", 0, (9, 2, 9)), ("look", 1, (3, 9, 9)), ("look", 0, (9, 4, 9)), ("look", 0, (5, 9, 9)),
                 ("look", 1, (9, 6, 9)), ("look", 0, (9, 9, 7)), ("look", 1, (9, 9, 9)), STOP, STOP]
        plan = Plan(2, 2, tuple(table))
        self.assertEqual(crosses(plan), ((0, 1),))
        self.assertEqual(crossing(plan, 0, 1), ((("abba", ""), ("a", "")), (0, 2, 3, 5)))
        self.assertIs(is_crossing(plan, 0, 1, ((("abba", ""), ("ab", "")), (1, 2, 6, 7))), True)

    def test_by_chance(self):
        rng = seeded(100)
        met = {}
        for number in range(400):
            rows = rng.randint(1, 4)
            plan = (random_plan(rng, rows), forward_plan(rng, rows, rng.randint(1, 3), rng.randint(2, 8)),
                    ladder_plan(rng, random_dealing(rng, rows), rng.randint(1, 3), 3))[number % 3]
            found = crosses(plan)
            self.assertEqual(found, naive.crossed_rows(plan))
            self.assertLessEqual(set(web(plan)), set(found))
            met[len(found)] = met.get(len(found), 0) + 1
        self.assertGreater(min(met[0], met[1]), 20)

    def test_plans_that_were_returned(self):
        self.assertEqual(crosses(beside(U, U)), ((0, 1), (2, 3)))
        both = behind(beside(U, U), renumbered(beside(U, U), (0, 2, 1, 3)))
        self.assertEqual(crosses(both), naive.crossed_rows(both))


class CrossingTest(unittest.TestCase):

    def right(self, plan, one, other):
        """Holds what crossing tells of two rows that cross."""
        contents, places = crossing(plan, one, other)
        self.assertTrue(all(ring == "" for _, ring in contents))
        found = naive.run_events(plan, contents, places[3] + 1)
        rows = [found[place][1] for place in places]
        self.assertEqual([found[place][0] for place in places], ["look"] * 4)
        self.assertIn(rows, ([one, other, one, other], [other, one, other, one]))
        self.assertEqual(tuple(sorted(set(places))), places)
        self.assertIs(is_crossing(plan, one, other, (contents, places)), True)
        self.assertIs(is_crossing(plan, other, one, (contents, places)), True)
        return (contents, places)

    def test_by_hand(self):
        self.assertEqual(self.right(T, 0, 1), ((("aa", ""), ("a", "")), (0, 1, 2, 3)))
        self.right(T, 1, 0)
        self.right(U, 0, 1)
        self.assertEqual(self.right(looks_in_order(2, 1, 1, 1, 0, 1, 0), 0, 1)[1], (0, 2, 3, 4))
        # If row 2 ends at once, the later looks at it are no events.
        self.assertEqual(self.right(looks_in_order(3, 1, 2, 0, 0, 2, 1, 2, 0, 1), 1, 0)[1], (1, 3, 4, 5))

    def test_none(self):
        self.assertIsNone(crossing(looks_in_order(2, 1, 0, 1, 0), 0, 1))
        self.assertIsNone(crossing(Plan(2, 1, (STOP,)), 1, 0))
        self.assertIs(is_crossing(Plan(2, 1, (STOP,)), 1, 0, None), False)

    def test_by_chance(self):
        rng = seeded(101)
        met = 0
        for number in range(300):
            rows = rng.randint(2, 4)
            plan = (random_plan(rng, rows), forward_plan(rng, rows, rng.randint(1, 3), rng.randint(2, 8)),
                    ladder_plan(rng, random_dealing(rng, rows), rng.randint(1, 3), 3))[number % 3]
            pairs = naive.crossed_rows(plan)
            for one in range(rows):
                for other in range(rows):
                    if (min(one, other), max(one, other)) in pairs:
                        met += 1
                        self.right(plan, one, other)
                    elif one != other:
                        self.assertIsNone(crossing(plan, one, other))
        self.assertGreater(met, 200)

    def test_no_rows(self):
        for row in BAD_ROWS + odd_things():
            for pair in [(row, 0), (0, row), (row, row), (row, None)]:
                with self.assertRaises(NoRow):
                    crossing(T, *pair)
                with self.assertRaises(NoRow):
                    is_crossing(T, *pair, None)
        for row in (0, 1):
            with self.assertRaises(NoRow):
                crossing(T, row, row)
            with self.assertRaises(NoRow):
                is_crossing(T, row, row, crossing(T, 0, 1))

    def test_is_crossing_on_any_contents(self):
        far = 10 ** 39
        right = [(C, (0, 1, 2, 3)), (D, (0, 1, 2, 3)), (D, (1, 2, 3, 4)), (D, (0, 1, 2, far + 1)), (D, (0, 1, far, far + 1)),
                 (D, (far - 1, far, far + 1, far + 2)), (D, (far, far + 1, far + 2, far + 3)), (D, (0, 3, 4, 11)),
                 ((("aaa", "aa"), ("a", "aaa")), (2, 5, 8, 11))]
        for thing in right:
            self.assertIs(is_crossing(T, 0, 1, thing), True, thing)
            self.assertIs(is_crossing(T, 1, 0, thing), True, thing)
        wrong = [(C, (0, 1, 2, 4)), (C, (0, 1, 2, 5)), (C, (1, 2, 3, 4)), (C, (0, 1, 2, far)), (D, (0, 1, 2, 4)), (D, (0, 2, 4, 6)),
                 (D, (0, 1, 3, 4)), (D, (0, 1, 2)), (D, (0, 1, 2, 3, 4)), (D, [0, 1, 2, 3]), (D, (3, 2, 1, 0)), (D, (0, 1, 1, 2)),
                 (D, (0, 1, 0, 1)), (D, (-1, 0, 1, 2)), (D, (False, 1, 2, 3)), (D, (0, True, 2, 3)), (D, (0, 1, 2, None)),
                 (D, ("0", 1, 2, 3)), (D, (0, 1, 2, (3,))), [D, (0, 1, 2, 3)], (list(D), (0, 1, 2, 3)), (D[:1], (0, 1, 2, 3)),
                 (D + D, (0, 1, 2, 3)), ((("", "b"), ("", "a")), (0, 1, 2, 3)), ((["", "a"], ("", "a")), (0, 1, 2, 3)), (D,),
                 (D, (0, 1, 2, 3), 0), D, (0, 1, 2, 3), None, (None, (0, 1, 2, 3)), (D, None), (D, (far + 1, far, far + 2, far + 3)),
                 ((("", ""), ("", "")), (0, 1, 2, 3)), ((("a", ""), ("", "")), (0, 1, 2, 3))]
        for thing in wrong + odd_things():
            self.assertIs(is_crossing(T, 0, 1, thing), False, thing)

    def test_places_behind_what_comes_first(self):
        # A word, then looks at both rows and a word for ever.
        plan = Plan(2, 1, (("say", "x", 1), ("look", 0, (2, 4)), ("look", 1, (3, 4)), ("say", "y", 1), STOP))
        for at in (0, 3000, 3 * 10 ** 38):
            self.assertIs(is_crossing(plan, 0, 1, (D, (at + 1, at + 2, at + 4, at + 5))), True)
            self.assertIs(is_crossing(plan, 0, 1, (D, (1, 2, at + 4, at + 5))), True)
            self.assertIs(is_crossing(plan, 0, 1, (D, (1, 2, at + 5, at + 7))), False)
            self.assertIs(is_crossing(plan, 0, 1, (D, (at, at + 1, at + 3, at + 4))), False)
            self.assertIs(is_crossing(plan, 0, 1, (D, (at + 2, at + 3, at + 5, at + 6))), False)

    def test_rows_that_do_not_cross_there_though_looked_at_for_ever(self):
        # By an a of row 2 row 0 is followed for ever, by a b row 1; by its end both are looked at by turns.
        plan = Plan(3, 2, (("look", 2, (1, 2, 3)), ("look", 0, (1, 1, 5)), ("look", 1, (2, 2, 5)), ("look", 0, (4, 4, 5)),
                           ("look", 1, (3, 3, 5)), STOP))
        ever = ("", "a")
        self.assertEqual(crosses(plan), ((0, 1),))
        for first in (("a", ""), ("b", ""), ("", "ab")):
            for places in [(1, 2, 3, 4), (0, 1, 2, 3), (1, 100, 101, 102)]:
                self.assertIs(is_crossing(plan, 0, 1, ((ever, ever, first), places)), False)
        self.assertIs(is_crossing(plan, 0, 1, ((ever, ever, ("", "")), (1, 2, 3, 4))), True)

    def test_says_and_other_rows_between(self):
        plan = Plan(3, 1, (("look", 0, (1, 5)), ("say", "x", 2), ("look", 2, (3, 3)), ("look", 1, (0, 5)), ("say", "y", 0), STOP))
        contents = (("", "a"),) * 3
        self.assertIs(is_crossing(plan, 0, 1, (contents, (0, 3, 4, 7))), True)
        for places in [(0, 3, 4, 5), (0, 1, 4, 7), (0, 3, 6, 7), (0, 2, 4, 7)]:
            self.assertIs(is_crossing(plan, 0, 1, (contents, places)), False)
        self.assertIs(is_crossing(plan, 0, 2, (contents, (0, 2, 4, 6))), True)


class FewestOnceTest(unittest.TestCase):

    def told(self, plan):
        dealing = naive.least_of_fewest(plan.rows, naive.crossed_rows(plan))
        self.assertEqual(least_once(plan), dealing)
        self.assertEqual(fewest_once(plan), max(dealing) + 1)
        self.assertGreaterEqual(fewest_once(plan), fewest_hands(plan))
        return fewest_once(plan) - fewest_hands(plan)

    def test_by_hand(self):
        self.assertEqual(least_once(U), (0, 1))
        self.assertEqual(least_once(T), (0, 1))
        self.assertEqual((fewest_once(Plan(6, 1, (STOP,))), least_once(Plan(6, 1, (STOP,)))), (1, (0,) * 6))
        self.assertEqual(least_once(looks_in_order(3, 1, 0, 2, 1, 0, 1, 2)), (0, 1, 1))
        order = (0, 1, 2, 3, 4, 5) * 2
        self.assertEqual(least_once(looks_in_order(6, 1, *order)), (0, 1, 2, 3, 4, 5))
        self.assertEqual(fewest_hands(looks_in_order(6, 1, *order)), 1)

    def test_by_chance(self):
        rng = seeded(102)
        more = 0
        for number in range(200):
            rows = rng.randint(1, 5)
            plan = (random_plan(rng, rows), forward_plan(rng, rows, rng.randint(1, 3), rng.randint(2, 8)),
                    rungs_in_order(rows, [rng.randrange(rows) for _ in range(rng.randint(4, 9))]))[number % 3]
            more += self.told(plan) > 0
        self.assertGreater(more, 15)


class MadeOnceTest(unittest.TestCase):

    def right(self, plan, dealing, some, many=150):
        program = made_once(plan, dealing)
        self.assertIsInstance(program, Program)
        self.assertEqual((program.rows, program.letters, program.dealing), (plan.rows, plan.letters, dealing))
        self.assertGreaterEqual(program.depth, 1)
        if plan.rows <= 6:
            self.assertEqual(Program(program.rows, program.letters, dealing, program.depth, program.table), program)
        for contents in some:
            found = naive.run_events(plan, contents, many)
            self.assertEqual(naive.walk_events(program, contents, many, True), found, (plan.table, dealing, contents))
            self.assertEqual(naive.walk_events(program, contents, many), found)
        return program

    def test_by_hand(self):
        some = [C, D, (("", ""), ("", "")), (("", "a"), ("aaa", "")), (("aaa", ""), ("", "a"))]
        self.right(T, (0, 1), some)
        self.right(T, (1, 0), some)
        rng = seeded(103)
        self.right(U, (0, 1), [random_contents(rng, 2, 2, 6, 3) for _ in range(100)])
        # Row 1 within row 0, row 2 within row 1; then row 0 goes on.
        plan = looks_in_order(3, 1, 0, 1, 2, 2, 1, 0, 0)
        some = [random_contents(rng, 3, 1, 4, 2) for _ in range(60)]
        self.assertEqual(self.right(plan, (0, 0, 0), some).depth, 3)
        # Rows within row 0, one behind another; what is left is not looked at any more.
        self.right(looks_in_order(4, 1, 0, 1, 0, 2, 3, 0, 0), (0, 0, 0, 0), [random_contents(rng, 4, 1, 4, 2) for _ in range(60)])
        # Two walks are left at once.
        self.right(looks_in_order(3, 1, 0, 1, 2, 0), (0, 0, 0), some)

    def test_all_dealings_by_chance(self):
        rng = seeded(104)
        shared = 0
        for number in range(300):
            rows = rng.randint(1, 4)
            plan = (random_plan(rng, rows), forward_plan(rng, rows, rng.randint(1, 3), rng.randint(2, 9)),
                    ladder_plan(rng, random_dealing(rng, rows), rng.randint(1, 3), 3))[number % 3]
            pairs = naive.crossed_rows(plan)
            for dealing in naive.dealings(rows):
                if all(dealing[r] != dealing[s] for r, s in pairs):
                    shared += len(set(dealing)) < rows
                    self.right(plan, dealing, [random_contents(rng, rows, plan.letters, 6, 3) for _ in range(3)])
                else:
                    with self.assertRaises(NotFree):
                        made_once(plan, dealing)
        self.assertGreater(shared, 200)

    def test_never_too_many(self):
        rng = seeded(105)
        for _ in range(60):
            rows = rng.randint(1, 3)
            plan = forward_plan(rng, rows, rng.randint(1, 3), 30)
            pairs = naive.crossed_rows(plan)
            for dealing in naive.dealings(rows):
                if all(dealing[r] != dealing[s] for r, s in pairs):
                    self.right(plan, dealing, [random_contents(rng, rows, plan.letters, 8, 3) for _ in range(2)])

    def test_no_dealings_then_not_free(self):
        for dealing in BAD_DEALINGS + odd_things():
            for plan in (T, looks_in_order(2, 1, 0, 1)):
                with self.assertRaises(NoDealing):
                    made_once(plan, dealing)
        with self.assertRaises(NotFree):
            made_once(T, (0, 0))
        # u can be led by one hand, but not if each row is walked once only.
        with self.assertRaises(NotFree):
            made_once(U, (0, 0))
        self.assertEqual(made(U, (0, 0)).dealing, (0, 0))
        self.assertEqual(once_events(made(U, (0, 0)), (("ab", ""), ("b", "")), 99)[-1], ("again", 0))


class BrokenOnceTest(unittest.TestCase):

    def right(self, plan, program):
        found = broken_once(plan, program)
        contents, k, one, other = found
        self.assertTrue(all(ring == "" for _, ring in contents))
        self.assertLess(k, 10000)
        ones, others = naive.run_events(plan, contents, k + 1), naive.walk_events(program, contents, k + 1, True)
        self.assertEqual(ones[:k], others[:k])
        self.assertEqual((ones[k], others[k]), (one, other))
        self.assertNotEqual(one, other)
        self.assertIs(is_broken_once(plan, program, found), True)
        return found

    def test_by_hand(self):
        # A program that leads like u when rows may be walked again.
        program = made(U, (0, 0))
        self.assertEqual(self.right(U, program)[3], ("again", 0))
        self.assertEqual(self.right(T, Program(2, 1, (0, 0), None, (STOP,)))[1:], (0, ("look", 0, "a"), STOP))
        told = {("again", 0): (("begin", 0, (1, 1)), ("begin", 1, (2, 2)), ("begin", 0, (3, 3)), STOP),
                ("none", 0): (("begin", 0, (1, 1)), ("begin", 1, (2, 2)), ("leave", 0, 3), ("leave", 0, 4), ("on", 0, (4, 4))),
                ("deep", 0): (("begin", 0, (1, 1)), ("begin", 1, (0, 0))),
                ("idle",): (("begin", 0, (1, 1)), ("begin", 1, (2, 2)), ("leave", 0, 3), ("leave", 0, 3))}
        for event, table in told.items():
            depth = 1 if event[0] == "deep" else 2
            found = self.right(T, Program(2, 1, (0, 0), depth, table))
            self.assertEqual(found[3], event if event != ("idle",) else ("none", 0))
        words = self.right(T, Program(2, 1, (0, 0), 2, (("begin", 0, (1, 1)), ("begin", 1, (2, 2)), ("say", "x", 2))))
        self.assertEqual(words[1:], (2, ("look", 0, "a"), ("say", "x")))

    def test_the_best_that_can_be_done(self):
        # Row 1 within row 0, then row 0: just the fourth look cannot be.
        table = (("begin", 0, (1, 3)), ("begin", 1, (2, 2)), ("leave", 0, 3), ("on", 0, (4, 4)), STOP)
        self.assertEqual(self.right(T, Program(2, 1, (0, 0), 2, table))[1], 3)

    def test_by_chance(self):
        rng = seeded(106)
        met = {}
        for number in range(600):
            rows = rng.randint(2, 3)
            plan = (random_plan(rng, rows), forward_plan(rng, rows, rng.randint(1, 3), rng.randint(2, 8)),
                    ladder_plan(rng, random_dealing(rng, rows), rng.randint(1, 3), 3))[number % 3]
            bound = rng.random() < 0.7
            program = (lasting_program if number % 4 else random_program)(rng, plan.rows, plan.letters, bound)
            pairs = naive.crossed_rows(plan)
            if all(program.dealing[r] != program.dealing[s] for r, s in pairs):
                with self.assertRaises(Free):
                    broken_once(plan, program)
            else:
                found = self.right(plan, program)
                met[found[3][0]] = met.get(found[3][0], 0) + 1
        self.assertGreater(sum(met.values()), 80)
        self.assertIn("again", met)

    def test_programs_made_for_the_plan(self):
        rng = seeded(107)
        met = 0
        for _ in range(60):
            plan = rungs_in_order(3, [rng.randrange(3) for _ in range(rng.randint(4, 7))])
            for dealing in naive.dealings(3):
                pairs = naive.crossed_rows(plan)
                if all(dealing[r] != dealing[s] for r, s in naive.joined_rows(plan)) and any(
                        dealing[r] == dealing[s] for r, s in pairs):
                    met += 1
                    self.right(plan, made(plan, dealing))
        self.assertGreater(met, 50)

    def test_too_many(self):
        rest = (("begin", 0, (1, 1)), ("begin", 1, (2, 2)), ("leave", 0, 3), ("on", 0, (4, 4)), STOP)
        for many in (9995, 9996, 9997, 10001):
            plan = behind(talking_plan(many), T)
            program = talking_program(many, (0, 0), 2, rest)
            if many + 3 < 10000:
                found = broken_once(plan, program)
                self.assertEqual((found[1], found[3]), (many + 3, STOP))
                self.assertIs(is_broken_once(plan, program, found), True)
            else:
                with self.assertRaises(TooMany) as caught:
                    broken_once(plan, program)
                self.assertEqual(caught.exception.most, 10000)
                # A place of 10000 is none.
                ones = events(T, C, 4)
                self.assertIs(is_broken_once(plan, program, (C, many + 3, ones[3], STOP)), False)

    def test_other_plans_then_free(self):
        one_hand = Program(2, 1, (0, 0), 1, (STOP,))
        for plan in [Plan(1, 1, (STOP,)), U, Plan(3, 1, (STOP,)), P, None, 0, "plan"]:
            with self.assertRaises(OtherPlan):
                broken_once(plan, one_hand)
        for program in [Program(1, 1, (0,), 1, (STOP,)), Program(2, 2, (0, 0), 1, (STOP,)), T] + odd_things():
            if program is not P:
                with self.assertRaises(OtherPlan):
                    broken_once(T, program)
                with self.assertRaises(OtherPlan):
                    is_broken_once(T, program, None)
        with self.assertRaises(Free):
            broken_once(T, P)
        with self.assertRaises(Free):
            broken_once(looks_in_order(2, 1, 0, 1, 0), one_hand)

    def test_nearly_such(self):
        program = Program(2, 1, (0, 0), None, (("begin", 0, (1, 1)), ("on", 0, (1, 1))))
        one, other = ("look", 1, "a"), ("look", 0, "a")
        right = [(C, 1, one, other), ((("aaaa", ""), ("aa", "")), 1, one, other), ((("a", ""), ("", "")), 1, ("look", 1, "end"),
                                                                                  ("look", 0, "end")),
                 ((("", ""), ("aa", "")), 1, STOP, ("none", 0))]
        for thing in right:
            self.assertIs(is_broken_once(T, program, thing), True, thing)
        # Contents of the other kind do not all end.
        wrong = [(D, 1, one, other), ((("aa", ""), ("", "a")), 1, one, other), ((("", "a"), ("aa", "")), 1, one, other),
                 (C, 0, one, other), (C, 2, one, other), (C, 1, other, one), (C, 1, one, one), (C, True, one, other),
                 (C, 1, ("look", True, "a"), other), (C, 1, one, ("look", False, "a")), (C, 1, list(one), other),
                 (C, 1, one, list(other)), [C, 1, one, other], (list(C), 1, one, other), (C[:1], 1, one, other), (C, 1, one),
                 (C, 1, one, other, 0), (C, -1, one, other), (C, 10000, one, other), (C, 10 ** 39, one, other), (C, "1", one, other),
                 (C, None, one, other), (None, 1, one, other), (C, 1, None, other), (C, 1, one, None), (C, 1, STOP, other),
                 ((("b", ""), ("a", "")), 1, one, other), C, one]
        for thing in wrong + odd_things():
            self.assertIs(is_broken_once(T, program, thing), False, thing)

    def test_led_once(self):
        # Walked again, the rows are looked at as the plan does: only once the program is broken.
        program = made(U, (0, 0))
        contents = (("ab", ""), ("ab", ""))
        ones, others = events(U, contents, 99), once_events(program, contents, 99)
        self.assertEqual(program_events(program, contents, 99), ones)
        at = len(others) - 1
        self.assertIs(is_broken_once(U, program, (contents, at, ones[at], ("again", 0))), True)
        self.assertIs(is_broken_once(U, made_once(U, (0, 1)), (contents, at, ones[at], ("again", 0))), False)


