"""10.1 and 10.2: rows that are dealt while a plan runs."""

import unittest

from tests import dealt_late
from tests.dealt_late import FIRST, Late, choosing_plan
from tests.things import P, STOP, T, U, ladder_plan, odd_things, random_dealing, random_plan, seeded
from wholewalks.errors import NoNumber, TooMany
from wholewalks.hands import fewest_hands
from wholewalks.joining import behind, beside
from wholewalks.late import is_late_paper, late_hands, late_paper
from wholewalks.plans import Plan

BAD_HANDS = [0, 7, -1, 10 ** 39, True, False, None, "1", (1,), [1], {}, P]
# The letter of row 0 tells which two of the others are looked at by turns.
CHOICE = choosing_plan([(1, 2), (1, 3), (2, 3)], 4, 3)
SIX = choosing_plan([(one, other) for one in range(1, 6) for other in range(one + 1, 6)], 6, 2)
FIRST_HELD = ((0, ()), ())


class LateHandsTest(unittest.TestCase):

    def test_e10(self):
        self.assertEqual(late_hands(T), 2)

    def test_by_hand(self):
        self.assertEqual(late_hands(U), 1)
        self.assertEqual(late_hands(Plan(1, 1, (STOP,))), 1)
        self.assertEqual(late_hands(Plan(1, 3, (("look", 0, (0, 0, 0, 1)), STOP))), 1)
        self.assertEqual(late_hands(Plan(6, 1, (STOP,))), 1)

    def test_fewer_than_hands_dealt_ahead(self):
        self.assertEqual((late_hands(CHOICE), fewest_hands(CHOICE)), (2, 3))
        self.assertEqual((late_hands(SIX), fewest_hands(SIX)), (2, 5))
        three = choosing_plan([(1, 2, 3), (3, 4), (4, 1), (4, 2)], 5, 2)
        self.assertEqual((late_hands(three), fewest_hands(three)), (3, 4))
        # The two lots hang on whether row 0 ends at once.
        two = choosing_plan([(1, 2), (2, 3)], 4, 1)
        self.assertEqual((late_hands(two), fewest_hands(two)), (2, 2))

    def test_a_row_that_is_dealt_ahead_of_the_choice_binds(self):
        # Rows 1, 2 and 3 are all looked at ahead of what row 0 tells.
        table = (("look", 1, (1, 10)), ("look", 2, (2, 10)), ("look", 3, (3, 10)), ("look", 0, (4, 6)), ("look", 1, (5, 10)),
                 ("look", 2, (4, 10)), ("look", 2, (7, 8)), ("look", 3, (6, 8)), ("look", 1, (9, 10)), ("look", 3, (8, 10)), STOP)
        plan = Plan(4, 1, table)
        self.assertEqual((late_hands(plan), fewest_hands(plan)), (3, 3))
        self.assertEqual(dealt_late.late_hands(plan), 3)

    def test_six_rows_by_turns(self):
        plan = Plan(6, 1, tuple([("look", row, ((row + 1) % 6, 6)) for row in range(6)]) + (STOP,))
        self.assertEqual((late_hands(plan), fewest_hands(plan)), (6, 6))
        for hands in range(1, 6):
            self.assertEqual(late_paper(plan, hands)[0], "lost")

    def test_by_chance(self):
        rng = seeded(110)
        met = {}
        for number in range(300):
            rows = rng.randint(1, 4)
            if number % 3 == 0:
                plan = random_plan(rng, rows, None, rng.randint(1, 12))
            elif number % 3 == 1:
                plan = ladder_plan(rng, random_dealing(rng, rows), rng.randint(1, 3), 3, rng.random() < 0.5)
            else:
                plan = lots_plan(rng, rng.randint(3, 5))
            hands = late_hands(plan)
            self.assertEqual(hands, dealt_late.late_hands(plan))
            self.assertLessEqual(hands, fewest_hands(plan))
            met[hands, fewest_hands(plan)] = True
        self.assertLessEqual({(1, 1), (2, 2), (3, 3), (2, 3), (3, 4)}, set(met))

    def test_plans_that_were_returned(self):
        self.assertEqual(late_hands(beside(T, T)), 2)
        self.assertEqual(late_hands(behind(CHOICE, Plan(4, 3, (STOP,)))), 2)
        self.assertEqual(late_hands(beside(beside(T, T), beside(T, T))), 2)

    def test_no_more_than_promised_is_needed_for_small_plans(self):
        rng = seeded(111)
        for _ in range(20):
            plan = random_plan(rng, 3, 3, 30)
            hands = late_hands(plan)
            for some in (1, 2, 3):
                self.assertEqual(late_paper(plan, some)[0], "lost" if some < hands else "dealt")


def lots_plan(rng, rows):
    """A plan that chooses lots of two or three rows, by chance."""
    letters = rng.randint(1, 3)
    lots = [rng.sample(range(1, rows), 3 if rows > 4 and rng.random() < 0.3 else 2)
            for _ in range(2 if letters == 1 else rng.randint(2, 5))]
    return choosing_plan(lots, rows, letters)


class LatePaperTest(unittest.TestCase):

    def right(self, plan, hands):
        kind, table = late_paper(plan, hands)
        self.assertIs(type(table), dict)
        late = Late(plan, hands)
        if kind == "dealt":
            self.assertTrue(late.deals(table))
        else:
            self.assertEqual(kind, "lost")
            self.assertTrue(late.shows(table))
        self.assertIs(is_late_paper(plan, hands, (kind, table)), True)
        return kind

    def test_by_hand(self):
        kind, table = late_paper(T, 1)
        self.assertEqual((kind, sorted(table)), ("lost", [FIRST_HELD, ((1, ()), ((0, 0),))]))
        self.assertGreater(table[FIRST_HELD], table[(1, ()), ((0, 0),)])
        kind, table = late_paper(T, 2)
        self.assertEqual((kind, len(table)), ("dealt", 2))
        self.assertEqual(late_paper(Plan(1, 1, (STOP,)), 1), ("dealt", {}))

    def test_states_that_are_spoilt_by_a_step(self):
        # Both rows are dealt ahead of the piece; the step into it is what spoils the state.
        plan = Plan(2, 1, (("look", 0, (1, 4)), ("look", 1, (2, 4)), ("look", 0, (3, 4)), ("look", 1, (2, 4)), STOP))
        self.assertEqual(self.right(plan, 1), "lost")
        self.assertEqual(late_paper(plan, 1)[1][(2, ()), ((0, 0), (1, 0))], 0)
        self.assertEqual(self.right(plan, 2), "dealt")
        self.assertIs(is_late_paper(plan, 2, ("dealt", {FIRST_HELD: 0, ((1, ()), ((0, 0),)): 0})), False)
        # Three rows of which two are dealt to one of two hands, whatever is done.
        table = tuple([("look", row, (row + 1, 9)) for row in range(3)])
        table += tuple([("look", row, (3 + (row + 1) % 3, 9)) for row in range(3)]) + (STOP,) * 4
        plan = Plan(3, 1, table)
        for hands in (1, 2, 3, 4):
            self.assertEqual(self.right(plan, hands), "lost" if hands < 3 else "dealt")
        self.assertIn(0, late_paper(plan, 2)[1].values())

    def test_each_number_of_hands(self):
        for plan, most in [(CHOICE, 4), (T, 6), (U, 3), (choosing_plan([(1, 2, 3), (3, 4), (4, 1), (4, 2)], 5, 2), 4)]:
            for hands in range(1, most + 1):
                self.assertEqual(self.right(plan, hands), "lost" if hands < late_hands(plan) else "dealt")
        for hands in range(1, 7):
            paper = late_paper(SIX, hands)
            self.assertEqual(paper[0], "lost" if hands < 2 else "dealt")
            self.assertIs(is_late_paper(SIX, hands, paper), True)

    def test_by_chance(self):
        rng = seeded(112)
        kinds = {}
        for number in range(200):
            plan = lots_plan(rng, rng.randint(3, 4)) if number % 2 else random_plan(rng, rng.randint(1, 4), None, rng.randint(1, 9))
            for hands in range(1, 4):
                kind = self.right(plan, hands)
                self.assertEqual(kind, "lost" if hands < late_hands(plan) else "dealt")
                kinds[kind] = kinds.get(kind, 0) + 1
        self.assertGreater(min(kinds["dealt"], kinds["lost"]), 80)

    def test_each_table_is_new(self):
        late_paper(T, 2)[1].clear()
        self.assertEqual(len(late_paper(T, 2)[1]), 2)

    def test_errors(self):
        for hands in BAD_HANDS + odd_things():
            if hands not in (1, 2) or isinstance(hands, bool):
                with self.assertRaises(NoNumber):
                    late_paper(T, hands)
                with self.assertRaises(NoNumber):
                    is_late_paper(T, hands, ("dealt", {}))

    def test_too_many(self):
        # Six rows by turns behind many looks, with five hands: each way to deal comes to many states.
        plan = ladder_plan(seeded(1), (0, 1, 2, 3, 4, 5), 3, 6, False)
        for _ in range(3):
            plan = behind(plan, plan)
        for hands in (1, 2, 3, 4, 5, 6):
            try:
                paper = late_paper(plan, hands)
                self.assertIs(is_late_paper(plan, hands, paper), True)
            except TooMany as error:
                self.assertEqual(error.most, 20000)


class IsLatePaperTest(unittest.TestCase):

    def judged(self, plan, hands, kind, table):
        late = Late(plan, hands)
        expected = late.deals(table) if kind == "dealt" else late.shows(table)
        self.assertIs(is_late_paper(plan, hands, (kind, table)), expected)
        return expected

    def test_tables_by_hand(self):
        second = ((1, ()), ((0, 0),))
        dealt = {FIRST_HELD: 0, second: 1}
        self.assertIs(is_late_paper(T, 2, ("dealt", dealt)), True)
        self.assertIs(is_late_paper(T, 3, ("dealt", dealt)), True)
        self.assertIs(is_late_paper(T, 1, ("dealt", dealt)), False)
        self.assertIs(is_late_paper(T, 2, ("dealt", {FIRST_HELD: 0})), False)
        self.assertIs(is_late_paper(T, 2, ("dealt", {second: 1})), False)
        self.assertIs(is_late_paper(T, 2, ("dealt", {})), False)
        self.assertIs(is_late_paper(T, 2, ("dealt", {FIRST_HELD: 0, second: 0})), False)
        self.assertIs(is_late_paper(T, 2, ("dealt", {FIRST_HELD: 1, second: 1})), False)
        self.assertIs(is_late_paper(T, 2, ("dealt", {FIRST_HELD: 1, ((1, ()), ((0, 1),)): 0})), True)
        self.assertIs(is_late_paper(T, 2, ("dealt", {FIRST_HELD: 0, second: 2})), False)
        self.assertIs(is_late_paper(T, 3, ("dealt", {FIRST_HELD: 0, second: 2})), True)
        self.assertIs(is_late_paper(T, 2, ("dealt", {FIRST_HELD: -1, second: 1})), False)
        self.assertIs(is_late_paper(T, 2, ("dealt", {FIRST_HELD: False, second: 1})), False)
        self.assertIs(is_late_paper(T, 2, ("dealt", {FIRST_HELD: 0, second: True})), False)

    def test_more_states_than_are_met(self):
        dealt = {FIRST_HELD: 0, ((1, ()), ((0, 0),)): 1}
        # Dealing is due there, though nobody comes there by this table.
        self.assertIs(is_late_paper(T, 2, ("dealt", {**dealt, ((1, ()), ((0, 1),)): 1})), True)
        self.assertIs(is_late_paper(T, 2, ("dealt", {**dealt, ((1, ()), ()): 1})), True)
        self.assertIs(is_late_paper(T, 2, ("dealt", {**dealt, ((0, ()), ((1, 0),)): 0})), True)
        # It is not due there: the row is dealt, or has ended, or nothing is looked at.
        self.assertIs(is_late_paper(T, 2, ("dealt", {**dealt, ((0, ()), ((0, 0),)): 0})), False)
        self.assertIs(is_late_paper(T, 2, ("dealt", {**dealt, ((2, (0,)), ((0, 0),)): 0})), False)
        self.assertIs(is_late_paper(T, 2, ("dealt", {**dealt, ((2, (1,)), ((0, 0),)): 0})), False)

    def test_what_is_no_state(self):
        dealt = {FIRST_HELD: 0, ((1, ()), ((0, 0),)): 1}
        self.assertIs(is_late_paper(T, 2, ("dealt", dealt)), True)
        for key in [((1, ()), ((0, 0), (0, 1))), ((0, ()), ((1, 0), (0, 0))), ((1, ()), ((0, 2),)), ((1, ()), ((0, -1),)),
                    ((1, ()), ((2, 0),)), ((1, ()), ((-1, 0),)), ((1, ()), (0, 0)), ((1, ()), ((0,),)), ((1, ()), ((0, 0, 0),)),
                    ((1, (0,)), ()), ((1, (0, 0)), ()), ((3, ()), ()), ((-1, ()), ()), (1, ()), ((1, ()),), ((1,), ()),
                    ((1, ()), (), ()), ((1, 0), ()), ((1, (2,)), ()), ((1, "0"), ()), ((1, ()), "00"), ("1", ()), (("1", ()), ()),
                    ((1, ()), (("0", 0),)), ((1, ()), ((0, "0"),)), ((10 ** 39, ()), ()), ((1, ()), ((10 ** 39, 0),)),
                    ((1, ()), ((0, 10 ** 39),)), None, "", 1, len, Plan, (), ((), ())]:
            self.assertIs(is_late_paper(T, 2, ("dealt", {**dealt, key: 0})), False, key)
            self.assertIs(is_late_paper(T, 1, ("lost", {**late_paper(T, 1)[1], key: 9})), False, key)

    def test_lost_tables_by_hand(self):
        second = ((1, ()), ((0, 0),))
        self.assertIs(is_late_paper(T, 1, ("lost", {FIRST_HELD: 2, second: 1})), True)
        self.assertIs(is_late_paper(T, 1, ("lost", {FIRST_HELD: 10 ** 39, second: 7})), True)
        self.assertIs(is_late_paper(T, 1, ("lost", {FIRST_HELD: 1, second: 1})), False)
        self.assertIs(is_late_paper(T, 1, ("lost", {FIRST_HELD: 1, second: 2})), False)
        self.assertIs(is_late_paper(T, 1, ("lost", {FIRST_HELD: 1})), False)
        self.assertIs(is_late_paper(T, 1, ("lost", {second: 1})), False)
        self.assertIs(is_late_paper(T, 1, ("lost", {})), False)
        # 0 stands for states alone that are spoilt, and row 1 is not dealt there.
        self.assertIs(is_late_paper(T, 1, ("lost", {FIRST_HELD: 1, second: 0})), False)
        self.assertIs(is_late_paper(T, 1, ("lost", {FIRST_HELD: 0, second: 1})), False)
        self.assertIs(is_late_paper(T, 1, ("lost", {FIRST_HELD: 2, second: -1})), False)
        self.assertIs(is_late_paper(T, 1, ("lost", {FIRST_HELD: 2, second: True})), False)
        # Spoilt states may stand there, and also states that lead to them.
        both = ((0, ()), ((0, 0), (1, 0)))
        more = {FIRST_HELD: 4, second: 1, both: 0}
        self.assertIs(is_late_paper(T, 1, ("lost", more)), True)
        self.assertIs(is_late_paper(T, 1, ("lost", {**more, ((1, ()), ((0, 0), (1, 0))): 3})), True)
        self.assertIs(is_late_paper(T, 1, ("lost", {**more, ((1, ()), ((0, 0), (1, 0))): 0, both: 5})), True)
        self.assertIs(is_late_paper(T, 1, ("lost", {**more, ((2, (0,)), ((0, 0),)): 0})), False)
        self.assertIs(is_late_paper(T, 1, ("lost", {**more, ((2, (0,)), ((0, 0),)): 5})), False)
        # With two hands only one of them is spoilt.
        self.assertIs(is_late_paper(T, 2, ("lost", {FIRST_HELD: 2, second: 1, ((1, ()), ((0, 1),)): 1})), False)

    def test_spoilt_between_dealing_and_step_alone(self):
        # Rows 0 and 1 are of one piece, but row 1 is looked at once: by each sign but the one it is left, and no step meets a
        # spoilt state any more; the state between is spoilt all the same.
        plan = Plan(2, 2, (("look", 0, (1, 0, 2)), ("look", 1, (0, 2, 2)), STOP))
        table = {FIRST_HELD: 0, ((1, ()), ((0, 0),)): 0}
        self.assertIs(is_late_paper(plan, 2, ("dealt", table)), False)
        self.assertIs(is_late_paper(plan, 1, ("dealt", table)), False)
        self.assertEqual(late_hands(plan), 2)
        self.assertIs(is_late_paper(plan, 1, ("lost", {FIRST_HELD: 2, ((1, ()), ((0, 0),)): 1})), True)

    def test_rows_of_one_hand_are_spoilt_only_where_a_piece_has_both(self):
        # Behind the first b of row 0 they are of pieces of their own.
        table = {FIRST_HELD: 0, ((1, ()), ((0, 0),)): 0, ((1, (0,)), ((0, 0),)): 0}
        self.assertEqual(late_paper(U, 1)[0], "dealt")
        self.assertIs(is_late_paper(U, 1, ("dealt", table)), True)
        self.assertEqual(sorted(late_paper(U, 1)[1]), sorted(table))

    def test_rows_that_end_and_are_looked_at_again(self):
        # Row 0 is looked at behind its end: dealing is not due there.
        plan = Plan(2, 1, (("look", 0, (0, 1)), ("look", 0, (2, 2)), ("look", 1, (2, 3)), STOP))
        table = {FIRST_HELD: 0, ((2, (0,)), ((0, 0),)): 0}
        self.assertEqual(late_paper(plan, 1), ("dealt", table))
        self.assertIs(is_late_paper(plan, 1, ("dealt", table)), True)
        self.assertIs(is_late_paper(plan, 1, ("dealt", {**table, ((1, (0,)), ((0, 0),)): 0})), False)
        # Nor at a state in which it was never dealt, if it has ended.
        self.assertIs(is_late_paper(plan, 1, ("dealt", {**table, ((1, (0,)), ()): 0})), False)
        self.assertIs(is_late_paper(plan, 1, ("dealt", {**table, ((2, (0,)), ()): 0})), True)

    def test_changed_papers_by_chance(self):
        rng = seeded(113)
        met = {}
        for number in range(150):
            plan = lots_plan(rng, rng.randint(3, 4)) if number % 2 else random_plan(rng, rng.randint(2, 3), None, rng.randint(2, 7))
            for hands in (1, 2, 3):
                kind, table = late_paper(plan, hands)
                known = sorted(Late(plan, hands).all_states())
                for _ in range(4):
                    more = dict(table)
                    way = rng.randrange(4)
                    if way == 0 and more:
                        del more[rng.choice(sorted(more))]
                    elif way == 1 and more:
                        more[rng.choice(sorted(more))] = rng.randint(-1, 4)
                    else:
                        more[rng.choice(known)] = rng.randint(0, 3)
                    told = self.judged(plan, hands, kind if way else rng.choice(("dealt", "lost")), more)
                    met[kind, told] = met.get((kind, told), 0) + 1
        self.assertGreater(min(met.values()), 30)
        self.assertEqual(len(met), 4)

    def test_odd_things(self):
        table = late_paper(T, 2)[1]
        for thing in odd_things() + [["dealt", table], ("dealt", table, 0), ("dealt",), ("lost", table), ("Dealt", table),
                                     (table, "dealt"), ("dealt", list(table.items())), ("dealt", tuple(table.items())), (b"dealt", table),
                                     (None, table), (("dealt",), table), ("dealt", None), ("lost", None), ("lost", {})]:
            self.assertIs(is_late_paper(T, 2, thing), False)
        lost = late_paper(T, 1)[1]
        for word in ("Lost", "lost ", "", "dealt", None, b"lost", 0, ("lost",)):
            self.assertIs(is_late_paper(T, 1, (word, lost)), False)
        self.assertIs(is_late_paper(T, 1, ["lost", lost]), False)
        self.assertIs(is_late_paper(T, 1, ("lost", lost, 0)), False)
        for thing in odd_things():
            self.assertIs(is_late_paper(T, 2, ("dealt", thing)), False)
            self.assertIs(is_late_paper(T, 2, ("lost", thing)), False)
            self.assertIs(is_late_paper(T, 2, (thing, table)), False)
            for key in table:
                self.assertIs(is_late_paper(T, 2, ("dealt", {**table, key: thing})),
                              thing == table[key] and not isinstance(thing, bool))
                self.assertIs(is_late_paper(T, 2, ("lost", {**table, key: thing})), False)

    def test_arguments_do_not_change(self):
        kind, table = late_paper(CHOICE, 2)
        before = dict(table)
        is_late_paper(CHOICE, 2, (kind, table))
        self.assertEqual(table, before)


if __name__ == "__main__":
    unittest.main()
