"""8.1: programs made for plans."""

import itertools
import unittest

from tests import naive
from tests.things import (STOP, T, U, ladder_plan, odd_things, random_contents, random_dealing, random_plan, random_table,
                          sames, seeded)
from wholewalks.errors import Idle, NoDealing, NotFree, TooMany
from wholewalks.hands import least_dealing
from wholewalks.joining import behind, beside, renumbered
from wholewalks.leading import held
from wholewalks.making import made
from wholewalks.pieces import is_free
from wholewalks.plans import Plan
from wholewalks.programs import Program

BAD_DEALINGS = [(0,), (0, 0, 0), (1, 1), (0, 2), (1, 2), (0, -1), (0, True), (False, 0), [0, 0], [0, 1], (0, None), (0, "0"),
                (0, 10 ** 39), "00", 0, None, {0: 0, 1: 0}, ()]


def all_contents(rows, letters, head, ring):
    """All contents with heads and rounds of so many letters at most."""
    words = [[""], [""]]
    for at, most in ((0, head), (1, ring)):
        for many in range(1, most + 1):
            words[at].extend(["".join(word) for word in itertools.product("abc"[:letters], repeat=many)])
    return itertools.product(itertools.product(words[0], words[1]), repeat=rows)


class MadeTest(unittest.TestCase):

    def right(self, plan, dealing, some, many=120):
        """Holds the program made against the plan, on some contents."""
        program = made(plan, dealing)
        self.assertIsInstance(program, Program)
        self.assertEqual((program.rows, program.letters, program.dealing), (plan.rows, plan.letters, dealing))
        self.assertGreaterEqual(program.depth, 1)
        if plan.rows <= 6 and program.depth <= 60:
            self.assertEqual(Program(program.rows, program.letters, dealing, program.depth, program.table), program)
        for contents in some:
            self.assertEqual(naive.walk_events(program, contents, many, False, 100000), naive.run_events(plan, contents, many),
                             (plan.table, dealing, contents))
        return program

    def some(self, rng, plan, times=4, head=6):
        return [random_contents(rng, plan.rows, plan.letters, head, 3) for _ in range(times)]

    def test_by_hand(self):
        self.right(T, (0, 1), all_contents(2, 1, 5, 2))
        self.right(T, (1, 0), all_contents(2, 1, 5, 2))
        self.right(U, (0, 1), all_contents(2, 2, 3, 1))
        # One hand: each row is walked up to its first b, then both again.
        self.right(U, (0, 0), all_contents(2, 2, 3, 1))
        self.right(Plan(1, 1, (STOP,)), (0,), all_contents(1, 1, 2, 1))
        self.right(Plan(3, 1, (("say", "x", 1), STOP)), (0, 0, 1), [(("a", ""),) * 3])

    def test_rows_gone_back_to_behind_others(self):
        # Rows 0, 1, 0, 2, 1, 0: each to its next b.
        order = (0, 1, 0, 2, 1, 0)
        table = tuple([("look", row, (at, at + 1, at + 1)) for at, row in enumerate(order)]) + (STOP,)
        plan = Plan(3, 2, table)
        for dealing in naive.dealings(3):
            self.right(plan, dealing, list(all_contents(3, 2, 2, 1))[::7])
        program = self.right(plan, (0, 0, 0), [(("aabab", "ab"), ("ba", "bba"), ("b", "ab"))])
        self.assertEqual(program.depth, 1)

    def test_words_are_said_once(self):
        table = (("say", "one", 1), ("look", 0, (1, 2, 2)), ("say", "two", 3), ("look", 1, (3, 4, 4)), ("say", "three", 5),
                 ("look", 0, (5, 6, 6)), ("say", "four", 7), ("look", 1, (7, 8, 8)), STOP)
        self.right(Plan(2, 2, table), (0, 0), all_contents(2, 2, 3, 1))

    def test_two_hands_go_back_together(self):
        # Rows 0 and 1 by turns, rows 2 and 1 by turns, rows 0 and 1 by turns, rows 2 and 3 by turns, row 1: where row 0
        # was left is told by letters of row 1 alone, so that both must be walked again to find it.
        lots = ((0, 1), (2, 1), (0, 1), (2, 3), (0, 3), (2, 1))
        table = []
        for at, (one, other) in enumerate(lots):
            table.append(("look", one, (2 * at + 1, 2 * at + 1, 2 * at + 2)))
            table.append(("look", other, (2 * at, 2 * at + 2, 2 * at + 2)))
        plan = Plan(4, 2, tuple(table) + (STOP,))
        rng = seeded(80)
        some = []
        for _ in range(150):
            some.append((("a" * rng.randint(5, 12), "a"), tuple_of_bs(rng), ("b" * rng.randint(5, 9), "a"), tuple_of_bs(rng)))
        some.extend(self.some(rng, plan, 150, 12))
        program = self.right(plan, (0, 1, 0, 1), some, 400)
        self.assertGreater(program.depth, 1)
        self.right(plan, (1, 0, 1, 2), some, 400)
        self.right(plan, (0, 1, 2, 1), some, 400)
        self.right(plan, (0, 1, 2, 3), some, 400)

    def test_rows_that_end_and_are_looked_at_again(self):
        # Behind its end row 0 is asked for again and again, between letters of row 1, which the same hand walks.
        plan = Plan(2, 2, (("look", 0, (0, 0, 1)), ("look", 1, (2, 3, 5)), ("look", 0, (5, 5, 1)), ("look", 0, (5, 5, 4)),
                           ("say", "b", 1), ("look", 0, (5, 5, 6)), STOP))
        self.right(plan, (0, 0), all_contents(2, 2, 3, 1))
        plan = Plan(2, 1, (("look", 0, (1, 1)), ("look", 1, (2, 2)), ("look", 0, (3, 3)), ("look", 1, (0, 4)), STOP))
        self.right(plan, (0, 1), all_contents(2, 1, 6, 2))

    def test_standings_that_are_never_met(self):
        # Row 0 has ended, so neither t's ring, nor what its letters would lead to, is ever come to.
        plan = Plan(2, 2, (("look", 0, (0, 0, 1)), ("look", 0, (2, 2, 4)), ("look", 1, (3, 3, 3)), ("look", 0, (2, 2, 2)),
                           ("look", 1, (4, 5, 5)), STOP, ("look", 0, (7, 7, 7)), ("look", 1, (6, 6, 6))))
        self.right(plan, (0, 0), all_contents(2, 2, 3, 1))

    def test_never_too_many_with_a_hand_for_each_row(self):
        rng = seeded(81)
        for number in range(60):
            rows = rng.randint(1, 3)
            letters = rng.randint(1, 3)
            plan = wide_plan(rng, rows, letters, 30)
            for dealing in itertools.permutations(range(rows)):
                program = self.right(plan, dealing, self.some(rng, plan, 2))
                self.assertLessEqual(len(program.table), 30 * 27)

    def test_never_too_many_with_five_standings_and_two_rows(self):
        rng = seeded(82)
        met = 0
        for number in range(1500):
            plan = forward_plan(rng, 2, rng.randint(1, 3), 5)
            for dealing in ((0, 0), (0, 1)):
                if is_free(plan, dealing):
                    met += dealing == (0, 0)
                    self.right(plan, dealing, self.some(rng, plan, 3))
        self.assertGreater(met, 1000)

    def test_all_free_dealings_by_chance(self):
        rng = seeded(83)
        shared = 0
        for number in range(300):
            rows = rng.randint(1, 4)
            if number % 3 == 0:
                plan = random_plan(rng, rows)
            elif number % 3 == 1:
                plan = forward_plan(rng, rows, rng.randint(1, 3), rng.randint(3, 9))
            else:
                plan = ladder_plan(rng, random_dealing(rng, rows), rng.randint(1, 3), rng.randint(1, 4))
            for dealing in naive.dealings(rows):
                if is_free(plan, dealing):
                    try:
                        self.right(plan, dealing, self.some(rng, plan, 2))
                        shared += len(set(dealing)) < rows
                    except TooMany:
                        pass
        self.assertGreater(shared, 300)

    def test_ladders(self):
        # Hands that go back to rows deep below: rows must be found again while others are found again.
        rng = seeded(84)
        depths = {}
        for number in range(220):
            dealing = random_dealing(rng, rng.randint(4, 5), 2)
            plan = ladder_plan(rng, dealing, 2, rng.randint(3, 6), False, number % 4 > 0)
            if is_free(plan, dealing):
                try:
                    program = self.right(plan, dealing, self.some(rng, plan, 8, 25), 200)
                    depths[program.depth] = depths.get(program.depth, 0) + 1
                except TooMany:
                    pass
        self.assertGreater(depths[1], 20)
        self.assertGreater(depths[2], 20)
        self.assertGreater(sum([many for depth, many in depths.items() if depth > 2]), 3)

    def test_contents_written_in_other_ways(self):
        program = made(U, (0, 0))
        for one in sames(("ab", "ba")):
            for other in sames(("", "aab")):
                self.assertIsNone(held(U, program, (one, other), 500))

    def test_long_contents(self):
        program = made(U, (0, 0))
        for one in [("a" * 60, ""), ("a" * 59 + "b", "a"), ("", "a" * 59 + "b"), ("b" * 60, "b")]:
            for other in [("a" * 60, ""), ("a" * 59 + "b", "a" * 60), ("", "a" * 60), ("", "")]:
                self.assertIsNone(held(U, program, (one, other), 400))

    def test_plans_that_were_returned(self):
        rng = seeded(85)
        both = behind(beside(U, U), renumbered(beside(U, U), (2, 0, 3, 1)))
        for dealing in [(0, 0, 1, 1), (0, 1, 2, 3), (0, 1, 1, 0)]:
            self.right(both, dealing, self.some(rng, both, 20))
        plan = beside(beside(T, T), beside(T, T))
        self.right(plan, (0, 1, 0, 1, 0, 1, 1, 0), self.some(rng, plan, 20))

    def test_many_hands(self):
        table = tuple([("look", row, ((row + 1) % 6, 6)) for row in range(6)]) + (STOP,)
        rng = seeded(86)
        plan = Plan(6, 1, table)
        self.right(plan, (5, 3, 1, 0, 2, 4), self.some(rng, plan, 30))
        program = made(plan, least_dealing(plan))
        self.assertIsNone(held(plan, program, (("", "a"),) * 6, 10000))

    def test_no_dealings_then_not_free(self):
        for dealing in BAD_DEALINGS + odd_things():
            for plan in (T, U):
                with self.assertRaises(NoDealing):
                    made(plan, dealing)
        with self.assertRaises(NotFree):
            made(T, (0, 0))
        rng = seeded(87)
        met = 0
        for _ in range(200):
            plan = random_plan(rng)
            dealing = random_dealing(rng, plan.rows)
            pairs = naive.joined_rows(plan)
            if any(dealing[r] == dealing[s] for r, s in pairs):
                met += 1
                with self.assertRaises(NotFree):
                    made(plan, dealing)
        self.assertGreater(met, 20)

    def test_too_many(self):
        # 29 times from one row to the other and back: to find where a row was left the other one must be found, too.
        table = tuple([("look", at % 2, (at, at + 1, at + 1)) for at in range(29)]) + (STOP,)
        try:
            made(Plan(2, 2, table), (0, 0))
        except TooMany as error:
            self.assertEqual(error.most, 20000)


def tuple_of_bs(rng):
    """A content in which a b comes now and then."""
    return ("".join([rng.choice("aab") for _ in range(rng.randint(3, 20))]), rng.choice(("", "ab")))


def wide_plan(rng, rows, letters, many):
    """A plan of so many standings, with not much that leads back."""
    while True:
        table = []
        for at in range(many):
            onward = [rng.randrange(at + 1, many) if at < many - 1 else at for _ in range(2)]
            nexts = tuple([rng.choice(onward + [rng.randrange(many)]) for _ in range(letters)]) + (onward[0],)
            table.append(("look", rng.randrange(rows), nexts) if at < many - 1 and rng.random() < 0.95 else
                         (("say", "x", onward[0]) if at < many - 1 else STOP))
        try:
            return Plan(rows, letters, tuple(table))
        except Idle:
            pass


def forward_plan(rng, rows, letters, many):
    """A plan whose standings lead on or to themselves, but for a few."""
    while True:
        table = list(random_table(rng, rows, letters, many))
        for at, item in enumerate(table):
            if item[0] == "look":
                ways = [rng.choice((at, at, min(at + 1, many - 1), rng.randrange(at, many))) for _ in item[2][1:]]
                last = rng.choice((min(at + 1, many - 1), many - 1, rng.randrange(many)))
                if rng.random() < 0.1:
                    ways[0] = rng.randrange(many)
                table[at] = ("look", at % rows if rng.random() < 0.6 else item[1], tuple(ways) + (last,))
            elif item[0] == "say":
                table[at] = ("say", item[1], min(at + 1, many - 1))
        try:
            return Plan(rows, letters, tuple(table))
        except Idle:
            pass
