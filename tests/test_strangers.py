"""8.2: contents on which programs come to do otherwise."""

import unittest

from tests import naive
from tests.test_pieces import TRIANGLE
from tests.things import (C, D, P, STOP, T, U, ladder_plan, lasting_program, odd_things, random_contents, random_dealing,
                          random_plan, random_program, seeded, talking_plan, talking_program)
from wholewalks.compiling import compiled
from wholewalks.errors import Free, OtherPlan, TooMany
from wholewalks.joining import behind, beside, renumbered
from wholewalks.leading import held, program_events
from wholewalks.making import made
from wholewalks.pieces import is_free, is_stuck
from wholewalks.plans import Plan
from wholewalks.programs import Program
from wholewalks.running import looked
from wholewalks.scripts import Script
from wholewalks.strangers import broken, is_broken

# Programs of one hand for t, each with the event at which it does otherwise.
STRANGERS = [
    (Program(2, 1, (0, 0), None, (("begin", 0, (1, 1)), ("on", 0, (1, 1)))), 1, ("look", 0, "a")),
    (Program(2, 1, (0, 0), 1, (STOP,)), 0, STOP),
    (Program(2, 1, (0, 0), 1, (("on", 0, (0, 0)),)), 0, ("none", 0)),
    (Program(2, 1, (0, 0), 1, (("begin", 0, (1, 1)), ("begin", 1, (1, 1)))), 1, ("deep", 0)),
    (Program(2, 1, (0, 0), 2, (("begin", 0, (1, 1)), ("begin", 1, (2, 2)), ("on", 0, (2, 2)))), 2, ("look", 1, "a")),
    (Program(2, 1, (0, 0), None, (("begin", 0, (1, 1)), ("begin", 1, (0, 0)))), 2, ("idle",)),
    (Program(2, 1, (0, 0), 2, (("begin", 0, (1, 1)), ("begin", 1, (2, 2)), ("leave", 0, 3), ("on", 0, (1, 1)))), 3, ("look", 0, "a")),
    (Program(2, 1, (0, 0), 2, (("begin", 0, (1, 1)), ("begin", 1, (2, 2)), ("say", "x", 2))), 2, ("say", "x")),
]


class BrokenTest(unittest.TestCase):

    def right(self, plan, program):
        """Holds what broken tells of a program."""
        found = broken(plan, program)
        self.assertIsInstance(found, tuple)
        contents, k, one, other = found
        self.assertLess(k, 10000)
        ones, others = naive.run_events(plan, contents, k + 1), naive.walk_events(program, contents, k + 1)
        self.assertEqual(ones[:k], others[:k])
        self.assertEqual((ones[k], others[k]), (one, other))
        self.assertNotEqual(one, other)
        pairs = [(r, s) for r in range(plan.rows) for s in range(r + 1, plan.rows)
                 if is_stuck(plan, program.dealing, (r, s, contents))]
        self.assertNotEqual(pairs, [])
        many = looked(plan, contents)
        self.assertTrue(any(many[r] is None and many[s] is None and program.dealing[r] == program.dealing[s] for r, s in pairs))
        self.assertIs(is_broken(plan, program, found), True)
        self.assertEqual(broken(plan, program), found)
        return found

    def test_by_hand(self):
        for program, k, event in STRANGERS:
            found = self.right(T, program)
            self.assertEqual(found[0], D)
            self.assertEqual(found[1], k)
            self.assertEqual(found[3], event)

    def test_several_hands(self):
        for dealing in naive.dealings(3):
            if len(set(dealing)) == 2:
                program = made(Plan(3, 2, (("look", 0, (1, 1, 1)), ("look", 1, (2, 2, 2)), ("look", 2, (3, 3, 3)), STOP)), dealing)
                self.right(TRIANGLE, program)

    def test_programs_that_are_like_the_plan_for_long(self):
        # Row 1 is walked again from its first letter at each turn, so many times.
        for turns in (1, 5, 40):
            table = [("begin", 0, (1, 0))]
            for turn in range(turns):
                table.append(("begin", 1, (len(table) + 1, 0)))
                for _ in range(turn):
                    table.append(("on", 0, (len(table) + 1, 0)))
                table.append(("leave", 0, len(table) + 1))
                table.append(("on", 0, (len(table) + 1, 0)))
            program = Program(2, 1, (0, 0), 2, tuple(table) + (STOP,))
            self.assertEqual(self.right(T, program), (D, 2 * turns + 1, ("look", 1, "a"), STOP))
            deep = Program(2, 1, (0, 0), None, tuple(table) + (("on", 0, (len(table),) * 2),))
            self.assertEqual(self.right(T, deep), (D, 2 * turns + 1, ("look", 1, "a"), ("look", 0, "a")))

    def test_too_many(self):
        rest = (("begin", 0, (1, 1)), ("begin", 1, (2, 2)), ("leave", 0, 3), ("on", 0, (3, 3)))
        for many in (9996, 9997, 9998, 10000, 10003):
            plan = behind(talking_plan(many), T)
            program = talking_program(many, (0, 0), None, rest)
            self.assertIsNone(held(plan, program, D, min(many + 3, 10000)))
            if many + 3 < 10000:
                self.assertEqual(broken(plan, program), (D, many + 3, ("look", 1, "a"), ("look", 0, "a")))
            else:
                with self.assertRaises(TooMany) as caught:
                    broken(plan, program)
                self.assertEqual(caught.exception.most, 10000)

    def test_compiled_scripts(self):
        # Row 1 is walked whole at each letter of row 0.
        script = Script(2, 1, (0, 0), ((("each", 0, 0, (("each", 1, 0, ()),)),),))
        self.assertEqual(self.right(T, compiled(script))[1], 2)

    def test_by_chance(self):
        rng = seeded(90)
        met = {}
        for number in range(500):
            rows = rng.randint(2, 3)
            plan = random_plan(rng, rows) if number % 2 else ladder_plan(rng, tuple(range(rows)), rng.randint(1, 3),
                                                                        rng.randint(1, 3))
            bound = rng.random() < 0.7
            program = (lasting_program if number % 3 else random_program)(rng, plan.rows, plan.letters, bound)
            if is_free(plan, program.dealing):
                with self.assertRaises(Free):
                    broken(plan, program)
            else:
                found = self.right(plan, program)
                met[found[3][0]] = met.get(found[3][0], 0) + 1
        self.assertGreater(sum(met.values()), 150)
        self.assertLessEqual({"look", "say", "stop", "none", "deep", "idle"}, set(met))

    def test_programs_made_for_other_dealings(self):
        # Each row to its first b, row 1 first, which one hand can do; then both by turns.
        plan = renumbered(Plan(2, 2, U.table[:2] + (STOP,)), (1, 0))
        ring = Plan(2, 2, (("look", 0, (1, 1, 2)), ("look", 1, (0, 0, 2)), STOP))
        found = self.right(behind(plan, ring), made(plan, (0, 0)))
        self.assertEqual(found[1:], (2, ("look", 0, "a"), STOP))

    def test_other_plans_then_free(self):
        for plan in [Plan(1, 1, (STOP,)), U, Plan(3, 1, (STOP,)), P, None, 0, "plan", (2, 1)]:
            with self.assertRaises(OtherPlan):
                broken(plan, STRANGERS[0][0])
        for program in [Program(1, 1, (0,), 1, (STOP,)), Program(2, 2, (0, 0), 1, (STOP,)), T] + odd_things():
            if program is not P:
                with self.assertRaises(OtherPlan):
                    broken(T, program)
                with self.assertRaises(OtherPlan):
                    is_broken(T, program, None)
        with self.assertRaises(OtherPlan):
            broken(beside(T, T), P)
        with self.assertRaises(Free):
            broken(T, P)
        with self.assertRaises(Free):
            broken(U, Program(2, 2, (0, 0), None, (STOP,)))
        # A dealing that is free though the program does otherwise.
        with self.assertRaises(Free):
            broken(T, Program(2, 1, (1, 0), 1, (STOP,)))


class IsBrokenTest(unittest.TestCase):

    def test_any_contents(self):
        program = STRANGERS[0][0]
        right = [(D, 1, ("look", 1, "a"), ("look", 0, "a")), (C, 1, ("look", 1, "a"), ("look", 0, "a")),
                 ((("aa", "aaa"), ("", "aa")), 1, ("look", 1, "a"), ("look", 0, "a")),
                 ((("", "a"), ("", "")), 1, ("look", 1, "end"), ("look", 0, "a")),
                 ((("", ""), ("", "")), 1, STOP, ("none", 0))]
        for thing in right:
            self.assertIs(is_broken(T, program, thing), True, thing)
            self.assertIs(is_broken(T, P, thing), False)

    def test_programs_of_free_dealings(self):
        program = Program(2, 1, (0, 1), 1, P.table[:4] + (("say", "x", 4),))
        self.assertIs(is_broken(T, program, (C, 4, STOP, ("say", "x"))), True)
        self.assertIs(is_broken(T, program, (D, 4, STOP, ("say", "x"))), False)
        self.assertIs(is_broken(T, P, (C, 4, STOP, STOP)), False)

    def test_nearly_such(self):
        program = STRANGERS[0][0]
        one, other = ("look", 1, "a"), ("look", 0, "a")
        wrong = [(D, 0, one, other), (D, 2, one, other), (D, 1, other, one), (D, 1, one, one), (D, 1, other, other),
                 (D, 3, one, other), (D, True, one, other), (D, 1, ("look", True, "a"), other), (D, 1, one, ("look", False, "a")),
                 (D, 1, ["look", 1, "a"], other), (D, 1, one, ["look", 0, "a"]), (D, 1, one[:2], other), (D, 1, one + ("a",), other),
                 (D, 1, ("look", 1, "b"), other), (D, 1, ("look", 1, "end"), other), (D, 1, STOP, other), (D, 1, one, STOP),
                 [D, 1, one, other], (list(D), 1, one, other), (D[:1], 1, one, other), (D + D, 1, one, other),
                 ((["", "a"], ("", "a")), 1, one, other), ((("", "b"), ("", "a")), 1, one, other), (D, 1, one), (D, 1, one, other, 0),
                 (D, -1, one, other), (D, 10000, one, other), (D, 10 ** 39, one, other), (D, "1", one, other), (D, None, one, other),
                 (D, (1,), one, other), (None, 1, one, other), (D, 1, None, other), (D, 1, one, None), ((D, 1), one, other), D, one]
        for thing in wrong + odd_things():
            self.assertIs(is_broken(T, program, thing), False, thing)
        # Rows of the other kind: the end of row 1 comes.
        self.assertIs(is_broken(T, program, ((("", "a"), ("", "")), 1, one, other)), False)

    def test_a_place_of_10000(self):
        rest = (("begin", 0, (1, 1)), ("begin", 1, (2, 2)), ("leave", 0, 3), ("on", 0, (3, 3)))
        for many in (9995, 9996, 9997, 9998):
            plan = behind(talking_plan(many), T)
            thing = (D, many + 3, ("look", 1, "a"), ("look", 0, "a"))
            self.assertEqual(naive.run_events(plan, D, many + 4)[-1], thing[2])
            self.assertIs(is_broken(plan, talking_program(many, (0, 0), None, rest), thing), many + 3 < 10000)

    def test_by_chance(self):
        rng = seeded(91)
        told = {True: 0, False: 0}
        for number in range(300):
            plan = random_plan(rng)
            program = lasting_program(rng, plan.rows, plan.letters, rng.random() < 0.7)
            contents = random_contents(rng, plan.rows, plan.letters)
            ones, others = naive.run_events(plan, contents, 60), naive.walk_events(program, contents, 60)
            same = 0
            while same < min(len(ones), len(others)) and ones[same] == others[same]:
                same += 1
            if same == min(len(ones), len(others)):
                continue
            for at in range(min(len(ones), len(others), 6)):
                thing = (contents, at, ones[at], others[at])
                self.assertIs(is_broken(plan, program, thing), at == same)
                told[at == same] += 1
        self.assertGreater(told[True], 150)
        self.assertGreater(told[False], 150)

    def test_programs_made_are_not_broken(self):
        rng = seeded(92)
        for _ in range(40):
            dealing = random_dealing(rng, 3)
            plan = ladder_plan(rng, dealing, 2, 3)
            if is_free(plan, dealing):
                program = made(plan, dealing)
                contents = random_contents(rng, 3, 2)
                for at, event in enumerate(program_events(program, contents, 10)):
                    self.assertIs(is_broken(plan, program, (contents, at, event, event)), False)
