"""4.2, 4.3 and 9.1: the events of programs."""

import unittest

from tests import naive
from tests.things import C, D, P, STOP, T, U, lasting_program, odd_things, random_contents, random_plan, random_program, seeded
from wholewalks.errors import NoContents, NoNumber, OtherPlan
from wholewalks.joining import beside, renumbered
from wholewalks.leading import held, once_events, program_events
from wholewalks.plans import Plan
from wholewalks.programs import Program
from wholewalks.running import events

BAD_CONTENTS = [(), (("a", ""),), (("a", ""),) * 3, [("a", ""), ("a", "")], (("b", ""), ("a", "")),
                (("a", ""), ["a", ""]), ("a", "a"), (("a", ""), None)]
BAD_NUMBERS = [-1, 10001, True, False, None, "9", (9,), 10 ** 39]
BEGUN_FOR_EVER = Program(1, 1, (0,), None, (("begin", 0, (0, 0)),))


class ProgramEventsTest(unittest.TestCase):

    def test_by_hand(self):
        # Row 0 to its first b, then all of it again from the first, saying y at each b.
        program = Program(1, 2, (0,), 2, (("begin", 0, (1, 2, 6)), ("on", 0, (1, 2, 6)), ("begin", 0, (3, 4, 5)),
                                          ("on", 0, (3, 4, 5)), ("say", "y", 3), ("on", 0, (6, 6, 6)), STOP))
        self.assertEqual(program_events(program, (("abaab", ""),), 99),
                         [("look", 0, "a"), ("look", 0, "b"), ("say", "y"), ("look", 0, "a"), ("look", 0, "a"),
                          ("look", 0, "b"), ("say", "y"), ("look", 0, "end"), STOP])

    def test_so_many(self):
        whole = program_events(P, C, 99)
        for many in range(8):
            self.assertEqual(program_events(P, C, many), whole[:many])
        self.assertEqual(program_events(P, D, 10000), [("look", 0, "a"), ("look", 1, "a")] * 5000)
        self.assertEqual(program_events(BEGUN_FOR_EVER, (("", "a"),), 0), [])
        self.assertEqual(program_events(BEGUN_FOR_EVER, (("", "a"),), 1), [("look", 0, "a")])

    def test_stop(self):
        self.assertEqual(program_events(Program(1, 1, (0,), 1, (STOP,)), (("", "a"),), 9), [STOP])

    def test_says_for_ever(self):
        program = Program(1, 1, (0,), 1, (("say", "x", 0),))
        self.assertEqual(program_events(program, (("", ""),), 10000), [("say", "x")] * 10000)

    def test_none(self):
        self.assertEqual(program_events(Program(1, 1, (0,), 1, (("on", 0, (0, 0)),)), (("a", ""),), 9), [("none", 0)])
        self.assertEqual(program_events(Program(1, 1, (0,), None, (("leave", 0, 0),)), (("a", ""),), 9), [("none", 0)])
        program = Program(2, 1, (0, 1), 1, (("begin", 0, (1, 1)), ("on", 1, (1, 1))))
        self.assertEqual(program_events(program, C, 9), [("look", 0, "a"), ("none", 1)])
        # The end closes a walk, also one that has just begun.
        program = Program(1, 1, (0,), 1, (("begin", 0, (0, 1)), ("leave", 0, 0)))
        self.assertEqual(program_events(program, (("", ""),), 9), [("look", 0, "end"), ("none", 0)])
        program = Program(1, 1, (0,), 1, (("begin", 0, (1, 1)), ("on", 0, (1, 1))))
        self.assertEqual(program_events(program, (("a", ""),), 9), [("look", 0, "a"), ("look", 0, "end"), ("none", 0)])

    def test_deep(self):
        def nest(depth):
            return Program(1, 1, (0,), depth, (("begin", 0, (0, 0)),))

        for depth in (1, 2, 60):
            self.assertEqual(program_events(nest(depth), (("a", ""),), 99), [("look", 0, "a"), ("deep", 0)])
        words = tuple([("begin", 0, (2 * at + 1, 0)) if half == 0 else ("say", "x", 2 * at + 2)
                       for at in range(61) for half in (0, 1)]) + (STOP,)
        found = program_events(Program(1, 1, (0,), 60, words), (("a", ""),), 999)
        self.assertEqual(found, [("look", 0, "a")] + [("say", "x")] * 60 + [("deep", 0)])
        # One begin fewer, and the run stops.
        found = program_events(Program(1, 1, (0,), 60, words[:120] + (STOP,)), (("a", ""),), 999)
        self.assertEqual(found, [("look", 0, "a")] + [("say", "x")] * 60 + [STOP])

    def test_deep_at_a_row_that_is_empty(self):
        table = (("begin", 0, (1, 2)), ("begin", 1, (2, 2)), STOP)
        contents = (("a", ""), ("", ""))
        self.assertEqual(program_events(Program(2, 1, (0, 0), 1, table), contents, 9), [("look", 0, "a"), ("deep", 0)])
        self.assertEqual(program_events(Program(2, 1, (0, 0), 2, table), contents, 9),
                         [("look", 0, "a"), ("look", 1, "end"), STOP])
        self.assertEqual(program_events(Program(2, 1, (0, 1), 1, table), contents, 9),
                         [("look", 0, "a"), ("look", 1, "end"), STOP])
        self.assertEqual(program_events(Program(2, 1, (0, 0), None, table), contents, 9),
                         [("look", 0, "a"), ("look", 1, "end"), STOP])

    def test_deep_counts_what_is_open(self):
        # A walk that was left, or came to its end, is not counted.
        table = (("begin", 0, (1, 1)), ("leave", 0, 2), ("begin", 0, (3, 3)), ("on", 0, (3, 4)), ("begin", 0, (5, 5)), STOP)
        self.assertEqual(program_events(Program(1, 1, (0,), 1, table), (("aa", ""),), 9),
                         [("look", 0, "a"), ("look", 0, "a"), ("look", 0, "end"), STOP])

    def test_places_looked_at_by_earlier_walks(self):
        table = (("begin", 0, (1, 2)), ("on", 0, (1, 2)), ("say", "x", 3), ("begin", 0, (4, 5)), ("on", 0, (4, 5)), STOP)
        self.assertEqual(program_events(Program(1, 1, (0,), 1, table), (("aa", ""),), 9),
                         [("look", 0, "a"), ("look", 0, "a"), ("look", 0, "end"), ("say", "x"), STOP])
        self.assertEqual(program_events(Program(1, 1, (0,), 1, table), (("", ""),), 9),
                         [("look", 0, "end"), ("say", "x"), STOP])
        # A walk of another hand is of another row; walks of one row stand in one another.
        table = (("begin", 0, (1, 4)), ("begin", 0, (2, 4)), ("on", 0, (3, 4)), ("leave", 0, 5), STOP, ("on", 0, (6, 4)),
                 ("on", 0, (4, 4)))
        self.assertEqual(program_events(Program(1, 1, (0,), 2, table), (("", "a"),), 9), [("look", 0, "a")] * 3 + [STOP])

    def test_walks_by_turns(self):
        # The inner walk is of row 1; the outer one of row 0 goes on when it is left.
        table = (("begin", 0, (1, 5)), ("begin", 1, (2, 3)), ("leave", 0, 3), ("on", 0, (4, 5)), ("begin", 1, (2, 3)), STOP)
        self.assertEqual(program_events(Program(2, 1, (0, 0), 2, table), (("aa", ""), ("a", "")), 9),
                         [("look", 0, "a"), ("look", 1, "a"), ("look", 0, "a"), ("look", 0, "end"), STOP])

    def test_wrong_contents_then_wrong_numbers(self):
        for told in (program_events, once_events):
            for contents in BAD_CONTENTS + odd_things():
                for many in (9, -1, None):
                    with self.assertRaises(NoContents):
                        told(P, contents, many)
            for many in BAD_NUMBERS + odd_things():
                with self.assertRaises(NoNumber):
                    told(P, C, many)

    def test_new_lists(self):
        program_events(P, C, 9).clear()
        self.assertEqual(len(program_events(P, C, 9)), 5)

    def test_by_chance(self):
        rng = seeded(40)
        for _ in range(600):
            program = random_program(rng, bound=rng.random() < 0.7)
            contents = random_contents(rng, program.rows, program.letters)
            self.assertEqual(program_events(program, contents, 40), naive.walk_events(program, contents, 40))


class IdleTest(unittest.TestCase):

    def idle(self, program, contents, before):
        self.assertEqual(program_events(program, contents, 10000), before + [("idle",)])
        self.assertEqual(program_events(program, contents, len(before)), before)
        self.assertEqual(program_events(program, contents, len(before) + 1), before + [("idle",)])

    def test_a_round_of_standings(self):
        for depth in (1, 60, None):
            program = Program(1, 1, (0,), depth, (("begin", 0, (1, 1)), ("leave", 0, 0)))
            self.idle(program, (("", "a"),), [("look", 0, "a")])
            program = Program(1, 1, (0,), depth, (("begin", 0, (1, 0)), ("on", 0, (1, 0))))
            self.idle(program, (("aa", ""),), [("look", 0, "a"), ("look", 0, "a"), ("look", 0, "end")])
            self.idle(program, (("", ""),), [("look", 0, "end")])

    def test_walks_that_grow_for_ever(self):
        self.idle(BEGUN_FOR_EVER, (("", "a"),), [("look", 0, "a")])
        self.idle(BEGUN_FOR_EVER, (("a", ""),), [("look", 0, "a")])
        table = (("begin", 0, (1, 5)), ("begin", 1, (2, 5)), ("on", 0, (3, 3)), ("begin", 1, (4, 4)), ("leave", 0, 0), STOP)
        self.idle(Program(2, 1, (0, 0), None, table), (("a", ""), ("aa", "")), [
            ("look", 0, "a"), ("look", 1, "a"), ("look", 1, "a")])

    def test_walks_that_grow_and_shrink(self):
        # Each round two more are begun and one is left: the height comes back, and goes higher.
        table = (("begin", 0, (1, 1)), ("begin", 0, (2, 2)), ("begin", 0, (3, 3)), ("leave", 0, 4), ("leave", 0, 0))
        self.idle(Program(1, 1, (0,), None, table), (("", "a"),), [("look", 0, "a")])
        table = (("begin", 0, (1, 1)), ("begin", 0, (2, 2)), ("begin", 0, (3, 3)), ("leave", 0, 4), ("leave", 0, 5),
                 ("leave", 0, 0))
        self.idle(Program(1, 1, (0,), None, table), (("", "a"),), [("look", 0, "a")])

    def test_a_far_walk_goes_on_behind_what_was_looked_at(self):
        # The inner walk comes by 30 letters that the outer one has looked at: no event comes, but it is no round.
        table = [("begin", 0, (1, 1))] + [("on", 0, (at + 1, at + 1)) for at in range(1, 30)] + [("begin", 0, (31, 31))]
        program = Program(1, 1, (0,), None, tuple(table) + (("on", 0, (31, 31)),))
        self.assertEqual(program_events(program, (("", "a"),), 10000), [("look", 0, "a")] * 10000)
        program = Program(1, 1, (0,), 60, tuple(table) + (("on", 0, (31, 31)),))
        self.assertEqual(program_events(program, (("", "a"),), 10000), [("look", 0, "a")] * 10000)

    def test_a_high_pile_that_is_taken_down(self):
        # 500 walks are begun and left again without an event: what comes then is no round, and the run says a word.
        table = [("begin", 0, (at + 1, at + 1)) for at in range(500)]
        table = table + [("leave", 0, at + 501) for at in range(500)] + [("say", "x", 0)]
        program = Program(1, 1, (0,), None, tuple(table))
        self.assertEqual(program_events(program, (("", "a"),), 8), [("look", 0, "a")] + [("say", "x")] * 7)
        table[1000] = ("begin", 0, (0, 0))
        self.idle(Program(1, 1, (0,), None, tuple(table)), (("", "a"),), [("look", 0, "a")])

    def test_a_pile_taken_down_at_one_standing(self):
        # The innermost walk and the standing are the same again and again, but the pile is lower each time.
        for many in (1, 3, 40, 500):
            table = tuple([("begin", 0, (at + 1, at + 1)) for at in range(many)]) + (("leave", 0, many),)
            self.assertEqual(program_events(Program(1, 1, (0,), None, table), (("", "a"),), 99), [("look", 0, "a"), ("none", 0)])

    def test_a_pile_taken_down_before_the_round(self):
        table = [("begin", 0, (at + 1, at + 1)) for at in range(500)] + [("leave", 0, at + 501) for at in range(500)]
        table = table + [("begin", 0, (1001, 1001)), ("leave", 0, 1000)]
        self.idle(Program(1, 1, (0,), None, tuple(table)), (("", "a"),), [("look", 0, "a")])

    def test_what_goes_on_below_is_no_round(self):
        # At each letter of row 1 walks of row 0 are begun and left: these stand as they stood, the walk below goes on.
        table = (("begin", 1, (1, 9)), ("on", 0, (1, 2)), ("begin", 1, (3, 9)), ("begin", 0, (4, 9)), ("begin", 0, (5, 9)),
                 ("leave", 0, 6), ("leave", 0, 7), ("on", 0, (3, 8)), ("say", "x", 9), STOP)
        for depth in (3, None):
            program = Program(2, 1, (0, 0), depth, table)
            for many in (1, 2, 30, 60):
                self.assertEqual(program_events(program, (("", "a"), ("a" * many, "")), 99), [("look", 1, "a")] * many + [
                    ("look", 1, "end"), ("look", 0, "a"), ("say", "x"), STOP])

    def test_behind_many_events(self):
        contents = (("a" * 60, ""), ("", "a"))
        # Each letter of row 0 has a word; row 1 is then looked at once, for ever.
        table = (("begin", 0, (1, 3)), ("say", "x", 2), ("on", 0, (1, 3)), ("begin", 1, (4, 4)), ("leave", 0, 3))
        before = [("look", 0, "a"), ("say", "x")] * 60 + [("look", 0, "end"), ("look", 1, "a")]
        for depth in (1, None):
            self.idle(Program(2, 1, (0, 0), depth, table), contents, before)
        words = tuple([("say", "x", at + 1) for at in range(9997)]) + (("begin", 0, (9998, 9998)), ("leave", 0, 9997))
        for depth in (1, None):
            self.idle(Program(1, 1, (0,), depth, words), (("a", ""),), [("say", "x")] * 9997 + [("look", 0, "a")])

    def test_a_long_round(self):
        # Three hands walk rows of 60, 59 and 58 letters again and again, by turns: their places come round late.
        table = (("begin", 0, (1, 1)), ("begin", 1, (2, 2)), ("begin", 2, (3, 3)), ("on", 0, (4, 6)), ("on", 1, (5, 7)),
                 ("on", 2, (3, 8)), ("begin", 0, (4, 4)), ("begin", 1, (5, 5)), ("begin", 2, (3, 3)))
        contents = (("a" * 60, ""), ("a" * 59, ""), ("a" * 7, ""))
        found = program_events(Program(3, 1, (0, 1, 2), 1, table), contents, 10000)
        self.assertEqual(found[-1], ("idle",))
        self.assertEqual(len(found), 61 + 60 + 8 + 1)

    def test_hands_whose_heights_never_are_least_at_once(self):
        # Hand 0 begins while hand 1 leaves, for ever.
        table = (("begin", 0, (1, 1)), ("begin", 1, (2, 2)), ("leave", 0, 3), ("begin", 0, (4, 4)), ("leave", 1, 1))
        self.idle(Program(2, 1, (0, 1), 1, table), D, [("look", 0, "a"), ("look", 1, "a")])

    def test_by_chance(self):
        rng = seeded(41)
        last = {}
        for number in range(1200):
            bound = number % 2 == 0
            rows, letters = rng.randint(1, 3), rng.randint(1, 2)
            program = lasting_program(rng, rows, letters, bound)
            contents = random_contents(rng, rows, letters)
            found = program_events(program, contents, 40)
            self.assertEqual(found, naive.walk_events(program, contents, 40))
            last[bound, found[-1][0]] = last.get((bound, found[-1][0]), 0) + 1
        self.assertGreater(last[True, "idle"], 20)
        self.assertGreater(last[False, "idle"], 100)
        self.assertGreater(last[True, "deep"], 50)


class OnceTest(unittest.TestCase):

    def test_a_row_begun_again(self):
        table = (("begin", 0, (1, 1)), ("leave", 0, 2), ("begin", 0, (3, 3)), STOP)
        program = Program(1, 1, (0,), 1, table)
        self.assertEqual(program_events(program, (("a", ""),), 9), [("look", 0, "a"), STOP])
        self.assertEqual(once_events(program, (("a", ""),), 9), [("look", 0, "a"), ("again", 0)])

    def test_a_row_that_was_over_at_once(self):
        table = (("begin", 1, (1, 1)), ("begin", 1, (2, 2)), STOP)
        program = Program(2, 1, (0, 0), 2, table)
        self.assertEqual(once_events(program, (("a", ""), ("", "")), 9), [("look", 1, "end"), ("again", 1)])

    def test_ahead_of_deep(self):
        table = (("begin", 0, (1, 1)), ("begin", 0, (2, 2)), STOP)
        program = Program(2, 1, (0, 0), 1, table)
        self.assertEqual(program_events(program, C, 9), [("look", 0, "a"), ("deep", 0)])
        self.assertEqual(once_events(program, C, 9), [("look", 0, "a"), ("again", 0)])
        other = Program(2, 1, (0, 0), 1, (("begin", 0, (1, 1)), ("begin", 1, (2, 2)), STOP))
        self.assertEqual(once_events(other, C, 9), [("look", 0, "a"), ("deep", 0)])

    def test_one_walk_each(self):
        self.assertEqual(once_events(P, C, 99), program_events(P, C, 99))
        self.assertEqual(once_events(P, D, 10000), [("look", 0, "a"), ("look", 1, "a")] * 5000)
        self.assertEqual(once_events(P, D, 0), [])
        self.assertEqual(once_events(BEGUN_FOR_EVER, (("", "a"),), 9), [("look", 0, "a"), ("again", 0)])
        program = Program(1, 1, (0,), 1, (("begin", 0, (1, 1)), ("leave", 0, 2), ("leave", 0, 2)))
        self.assertEqual(once_events(program, (("a", ""),), 9), [("look", 0, "a"), ("none", 0)])

    def test_by_chance(self):
        rng = seeded(42)
        for number in range(600):
            rows, letters = rng.randint(1, 3), rng.randint(1, 2)
            program = lasting_program(rng, rows, letters, number % 2 == 0)
            contents = random_contents(rng, rows, letters)
            self.assertEqual(once_events(program, contents, 40), naive.walk_events(program, contents, 40, True))


class HeldTest(unittest.TestCase):

    def test_e05(self):
        self.assertIsNone(held(T, P, C, 99))

    def test_the_first_place(self):
        other = renumbered(T, (1, 0))
        self.assertEqual(held(other, P, C, 99), (0, ("look", 1, "a"), ("look", 0, "a")))
        self.assertIsNone(held(other, P, C, 0))
        self.assertIsNone(held(T, P, D, 10000))
        late = Plan(2, 1, (("look", 0, (1, 2)), ("look", 1, (0, 2)), ("say", "x", 3), STOP))
        self.assertEqual(held(late, P, C, 99), (4, ("say", "x"), STOP))
        self.assertEqual(held(late, P, C, 5), (4, ("say", "x"), STOP))
        self.assertIsNone(held(late, P, C, 4))

    def test_the_last_events(self):
        stop = Plan(1, 1, (STOP,))
        walk = Plan(1, 1, (("look", 0, (0, 1)), STOP))
        contents = (("aa", ""),)
        told = {("none", 0): Program(1, 1, (0,), 1, (("on", 0, (0, 0)),)), ("idle",): BEGUN_FOR_EVER,
                ("deep", 0): Program(1, 1, (0,), 1, (("begin", 0, (0, 0)),)), STOP: Program(1, 1, (0,), 1, (STOP,))}
        for event, program in told.items():
            found = program_events(program, contents, 9)
            self.assertEqual(found[-1], event)
            at = len(found) - 1
            self.assertEqual(held(walk, program, contents, 9), (at, ("look", 0, "a"), event))
            self.assertIsNone(held(walk, program, contents, at))
        self.assertIsNone(held(stop, told[STOP], contents, 9))
        self.assertEqual(held(stop, told["none", 0], contents, 9), (0, STOP, ("none", 0)))

    def test_as_the_lists_are(self):
        rng = seeded(43)
        unlike = 0
        for _ in range(200):
            plan = random_plan(rng)
            program = lasting_program(rng, plan.rows, plan.letters)
            contents = random_contents(rng, plan.rows, plan.letters)
            pairs = list(zip(events(plan, contents, 20), naive.walk_events(program, contents, 20)))
            told = [(at, one, other) for at, (one, other) in enumerate(pairs) if one != other]
            self.assertEqual(held(plan, program, contents, 20), told[0] if told else None)
            unlike += told != []
        self.assertGreater(unlike, 100)

    def test_other_plans_first(self):
        for plan in [Plan(1, 1, (STOP,)), U, Plan(3, 1, (STOP,)), P, None, 0, "plan", (2, 1)]:
            with self.assertRaises(OtherPlan):
                held(plan, P, None, None)
        for program in [Program(1, 1, (0,), 1, (STOP,)), Program(2, 2, (0, 0), 1, (STOP,)), T, None] + odd_things():
            if program is not P:
                with self.assertRaises(OtherPlan):
                    held(T, program, None, -1)
        with self.assertRaises(OtherPlan):
            held(beside(T, T), P, C, 1)

    def test_wrong_contents_then_wrong_numbers(self):
        for contents in BAD_CONTENTS + odd_things():
            with self.assertRaises(NoContents):
                held(T, P, contents, -1)
        for many in BAD_NUMBERS + odd_things():
            with self.assertRaises(NoNumber):
                held(T, P, C, many)
