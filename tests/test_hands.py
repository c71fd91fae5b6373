"""7.1 and 7.2: the fewest hands, and needs."""

import itertools
import unittest

from tests import naive
from tests.things import STOP, T, U, ladder_plan, odd_things, random_dealing, random_plan, seeded
from wholewalks.errors import NoNumber
from wholewalks.hands import fewest_hands, is_need, least_dealing, need
from wholewalks.joining import behind, beside, renumbered
from wholewalks.pieces import is_free, web
from wholewalks.plans import Plan

BAD_NUMBERS = [0, -1, True, False, None, "1", (1,), [1], -(10 ** 39)]


def web_plan(rows, pairs):
    """A plan with just these pairs of joined rows, one ring for each, one behind another; at most 14 pairs."""
    many = 2 * len(pairs)
    table = []
    for at, (one, other) in enumerate(pairs):
        behind_it = 2 * at + 2
        table.append(("look", one, (2 * at + 1, behind_it, behind_it)))
        table.append(("look", other, (2 * at, behind_it, behind_it)))
    return Plan(rows, 2, tuple(table[:many]) + (STOP,))


def is_tree(rows, pairs, number, thing):
    """Whether a thing is a need, by the words of the document."""

    def goes(groups, joined, tree):
        if not isinstance(tree, tuple) or not tree:
            return False
        if tree[0] == "all" and len(tree) == 2:
            told = tree[1]
            return (isinstance(told, tuple) and len(told) == number == len(set(told)) and set(told) <= groups
                    and all(frozenset(pair) in joined for pair in itertools.combinations(told, 2)))
        if tree[0] != "case" or len(tree) != 5:
            return False
        one, other = tree[1:3]
        if one not in groups or other not in groups or one == other or frozenset((one, other)) in joined:
            return False
        both = tuple(sorted(one + other))
        names = {group: both if group in (one, other) else group for group in groups}
        fewer = {frozenset(names[group] for group in pair) for pair in joined}
        return goes(set(names.values()), fewer, tree[3]) and goes(groups, joined | {frozenset((one, other))}, tree[4])

    return goes({(row,) for row in range(rows)}, {frozenset(((r,), (s,))) for r, s in pairs}, thing)


RING = web_plan(5, [(0, 1), (1, 2), (2, 3), (3, 4), (0, 4)])
WHEEL = web_plan(6, [(0, 1), (1, 2), (2, 3), (3, 4), (0, 4)] + [(row, 5) for row in range(5)])
ALL_SIX = Plan(6, 1, tuple([("look", row, ((row + 1) % 6, 6)) for row in range(6)]) + (STOP,))
NONE_OF_SIX = Plan(6, 1, tuple([("look", row, (row, row + 1)) for row in range(6)]) + (STOP,))


class FewestTest(unittest.TestCase):

    def test_e07(self):
        self.assertEqual(fewest_hands(T), 2)
        self.assertEqual(fewest_hands(U), 1)

    def told(self, plan, many, dealing):
        self.assertEqual(fewest_hands(plan), many)
        self.assertEqual(least_dealing(plan), dealing)
        self.assertIs(is_free(plan, dealing), True)

    def test_by_hand(self):
        self.told(Plan(1, 1, (STOP,)), 1, (0,))
        self.told(Plan(6, 1, (STOP,)), 1, (0,) * 6)
        self.told(T, 2, (0, 1))
        self.told(U, 1, (0, 0))
        self.told(ALL_SIX, 6, (0, 1, 2, 3, 4, 5))
        self.told(NONE_OF_SIX, 1, (0,) * 6)
        self.told(RING, 3, (0, 1, 0, 1, 2))
        self.told(WHEEL, 4, (0, 1, 0, 1, 2, 3))
        # Beside one another: the pairs (0, 1), (2, 3) and (4, 5).
        self.told(web_plan(6, [(0, 1), (2, 3), (4, 5)]), 2, (0, 1, 0, 1, 0, 1))
        self.told(web_plan(6, [(0, 5), (1, 4), (2, 3)]), 2, (0, 0, 0, 1, 1, 1))

    def test_the_least_among_several(self):
        # With three hands (0, 0, 1, 2) would be free, too, and less; but two do.
        self.told(web_plan(4, [(0, 3), (1, 2), (2, 3)]), 2, (0, 1, 0, 1))
        # What is least at first must be taken back: row 2 could have hand 0 were it not for two hands alone.
        self.told(web_plan(4, [(0, 1), (1, 3), (2, 3)]), 2, (0, 1, 1, 0))
        self.told(web_plan(6, [(0, 3), (0, 4), (1, 3), (1, 5), (2, 4), (2, 5)]), 2, (0, 0, 0, 1, 1, 1))
        self.told(web_plan(6, [(0, 2), (1, 3), (2, 4), (3, 5), (4, 5)]), 2, (0, 1, 1, 0, 0, 1))

    def test_all_webs_of_four_rows(self):
        pairs = [(r, s) for r in range(4) for s in range(r + 1, 4)]
        for many in range(7):
            for some in itertools.combinations(pairs, many):
                dealing = naive.least_of_fewest(4, some)
                self.told(web_plan(4, some), max(dealing) + 1, dealing)

    def test_webs_by_chance(self):
        rng = seeded(70)
        pairs = [(r, s) for r in range(6) for s in range(r + 1, 6)]
        for _ in range(60):
            some = sorted(rng.sample(pairs, rng.randint(0, 14)))
            plan = web_plan(6, some)
            self.assertEqual(web(plan), tuple(some))
            dealing = naive.least_of_fewest(6, some)
            self.told(plan, max(dealing) + 1, dealing)

    def test_plans_by_chance(self):
        rng = seeded(71)
        for number in range(150):
            plan = random_plan(rng) if number % 2 else ladder_plan(rng, random_dealing(rng, rng.randint(1, 5)), rng.randint(1, 3), 4)
            dealing = naive.least_of_fewest(plan.rows, naive.joined_rows(plan))
            self.told(plan, max(dealing) + 1, dealing)

    def test_plans_that_were_returned(self):
        both = beside(RING, RING)
        self.told(both, 3, (0, 1, 0, 1, 2) * 2)
        apart = renumbered(both, (0, 2, 4, 6, 8, 1, 3, 5, 7, 9))
        self.told(apart, 3, (0, 0, 1, 1, 0, 0, 1, 1, 2, 2))
        # Each row of the one is joined with the same of the other.
        six = web_plan(6, [(0, 3), (1, 4), (2, 5)])
        self.told(behind(beside(web_plan(3, [(0, 1), (1, 2), (0, 2)]), web_plan(3, [(0, 1), (1, 2), (0, 2)])), six), 3,
                  (0, 1, 2, 1, 2, 0))


class NeedTest(unittest.TestCase):

    def right(self, plan):
        """Holds the need of a plan, and that it is none for other numbers."""
        tree = need(plan)
        many = fewest_hands(plan)
        self.assertIs(is_need(plan, many, tree), True)
        self.assertTrue(is_tree(plan.rows, web(plan), many, tree))
        self.assertEqual(need(plan), tree)
        for number in (1, many - 1, many + 1, many + 2, 7, 10 ** 39):
            if number >= 1 and number != many:
                self.assertIs(is_need(plan, number, tree), False)
        return tree

    def test_by_hand(self):
        self.assertEqual(self.right(Plan(1, 1, (STOP,))), ("all", ((0,),)))
        self.assertEqual(self.right(T)[0], "all")
        self.assertEqual(self.right(ALL_SIX)[0], "all")
        self.assertEqual(self.right(NONE_OF_SIX)[0], "all")
        self.assertEqual(self.right(RING)[0], "case")
        self.assertEqual(self.right(WHEEL)[0], "case")

    def test_by_chance(self):
        rng = seeded(72)
        pairs = [(r, s) for r in range(6) for s in range(r + 1, 6)]
        for _ in range(60):
            self.right(web_plan(6, sorted(rng.sample(pairs, rng.randint(0, 14)))))
        for _ in range(100):
            self.right(random_plan(rng))

    def test_needs_for_less(self):
        self.assertIs(is_need(T, 1, ("all", ((0,),))), True)
        self.assertIs(is_need(T, 1, ("all", ((1,),))), True)
        self.assertIs(is_need(T, 2, ("all", ((1,), (0,)))), True)
        self.assertIs(is_need(T, 2, ("all", ((0,), (1,)))), True)
        self.assertIs(is_need(RING, 2, ("all", ((3,), (4,)))), True)
        self.assertIs(is_need(RING, 2, ("all", ((2,), (4,)))), False)
        self.assertIs(is_need(ALL_SIX, 4, ("all", ((5,), (0,), (3,), (1,)))), True)

    def test_cases(self):
        same, apart = ("all", ((3,), (4,), (0, 2))), ("all", ((0,), (1,), (2,)))
        self.assertIs(is_need(RING, 3, ("case", (0,), (2,), same, apart)), True)
        self.assertIs(is_need(RING, 3, ("case", (2,), (0,), same, apart)), True)
        self.assertIs(is_need(RING, 3, ("case", (0,), (2,), apart, same)), False)
        self.assertIs(is_need(RING, 3, ("case", (0,), (2,), same, same)), False)
        self.assertIs(is_need(RING, 3, ("case", (0,), (2,), apart, apart)), False)
        # Two joined groups, though both trees would do; the same group twice, groups that are not there.
        self.assertIs(is_need(T, 1, ("case", (0,), (1,), ("all", ((0, 1),)), ("all", ((0,),)))), False)
        self.assertIs(is_need(U, 1, ("case", (0,), (1,), ("all", ((0, 1),)), ("all", ((0,),)))), True)
        self.assertIs(is_need(U, 1, ("case", (0,), (0,), ("all", ((0,),)), ("all", ((0,),)))), False)
        self.assertIs(is_need(T, 2, ("case", (0,), (1,), ("all", ((0, 1), (0, 1))), ("all", ((0,), (1,))))), False)
        self.assertIs(is_need(RING, 3, ("case", (0,), (1,), same, apart)), False)
        self.assertIs(is_need(RING, 3, ("case", (0,), (0,), same, apart)), False)
        self.assertIs(is_need(RING, 3, ("case", (0,), (0, 2), same, apart)), False)
        self.assertIs(is_need(RING, 3, ("case", (0,), (5,), same, apart)), False)
        self.assertIs(is_need(RING, 3, ("case", (0,), (), same, apart)), False)
        self.assertIs(is_need(RING, 3, ("case", (False,), (2,), same, apart)), False)
        self.assertIs(is_need(RING, 3, ("case", [0], (2,), same, apart)), False)
        self.assertIs(is_need(RING, 3, ("case", 0, 2, same, apart)), False)
        self.assertIs(is_need(RING, 3, ("case", (0,), (2,), same)), False)
        self.assertIs(is_need(RING, 3, ("case", (0,), (2,), same, apart, apart)), False)
        self.assertIs(is_need(RING, 3, ["case", (0,), (2,), same, apart]), False)
        self.assertIs(is_need(RING, 3, ("cases", (0,), (2,), same, apart)), False)
        self.assertIs(is_need(RING, 3, ("case", (0,), (2,), list(same), apart)), False)

    def test_a_case_within_a_case(self):
        # Behind a case in which 0 and 2 are one, they stay one: (0,) is not there any more, and (0, 2) is joined with 1, 3 and 4.
        same, apart = ("all", ((3,), (4,), (0, 2))), ("all", ((0,), (1,), (2,)))
        more = ("case", (1,), (3,), ("all", ((0, 2), (4,), (1, 3))), same)
        self.assertIs(is_need(RING, 3, ("case", (0,), (2,), more, apart)), True)
        more = ("case", (1,), (3,), same, same)
        self.assertIs(is_need(RING, 3, ("case", (0,), (2,), more, apart)), False)
        more = ("case", (0, 2), (3,), same, same)
        self.assertIs(is_need(RING, 3, ("case", (0,), (2,), more, apart)), False)
        more = ("case", (2,), (1,), same, same)
        self.assertIs(is_need(RING, 3, ("case", (0,), (2,), more, apart)), False)
        # Groups are ascending: (2, 0) is none.
        self.assertIs(is_need(RING, 3, ("case", (0,), (2,), ("all", ((3,), (4,), (2, 0))), apart)), False)

    def test_wrong_leaves(self):
        wrong = [("all", ((0,), (0,))), ("all", ((0,),)), ("all", ((0,), (1,), (1,))), ("all", ()), ("all", ((0,), (2,))),
                 ("all", ((0, 1),)), ("all", ((0,), (False,))), ("all", ((True,), (0,))), ("all", [(0,), (1,)]),
                 ("all", ([0], [1])), ["all", ((0,), (1,))], ("all", ((0,), (1,)), 0), ("all",), ((0,), (1,)), ("All", ((0,), (1,))),
                 ("all", (0, 1)), ("all", ("0", "1")), ("all", None), ("all", ((0,), None)), ("all", ((0,), (10 ** 39,))),
                 ("all", ((0,), (-1,))), ("all", ((0,), ())), "all", None, 0]
        for thing in wrong + odd_things():
            self.assertIs(is_need(T, 2, thing), False)
            self.assertIs(is_need(T, 3, thing), False)
        self.assertIs(is_need(T, 2, ("all", ((0,), (1,)))), True)

    def test_deep_trees(self):
        # Needs may be nested far deeper than this one goes: they are judged all the same.
        many = 10
        plan = Plan(6, 1, (STOP,))
        for row in range(1, 6):
            plan = behind(plan, renumbered(beside(T, Plan(4, 1, (STOP,))), (0, row) + tuple([r for r in range(1, 6) if r != row])))
        self.assertEqual(fewest_hands(plan), 2)
        leaf = ("all", ((0,), (5,)))
        tree = leaf
        for row in (4, 3, 2):
            tree = ("case", tuple(range(1, row)), (row,), tree, leaf)
        self.assertIs(is_need(plan, 2, tree), True)
        self.assertIs(is_need(plan, many, tree), False)

    def test_by_chance_against_the_words(self):
        rng = seeded(73)
        groups = [(row,) for row in range(4)] + [(0, 1), (0, 2), (1, 3), (2, 3), (0, 1, 2), (True,), [0]]

        def tree(deep):
            if deep == 0 or rng.random() < 0.4:
                return ("all", tuple(rng.sample(groups[:8], rng.randint(1, 3))))
            return ("case", rng.choice(groups[:8]), rng.choice(groups[:8]), tree(deep - 1), tree(deep - 1))

        yes = 0
        pairs = [(r, s) for r in range(4) for s in range(r + 1, 4)]
        plans = [web_plan(4, some) for many in range(7) for some in itertools.combinations(pairs, many)]
        for number in range(12000):
            plan = plans[number % len(plans)]
            thing, number = tree(2), rng.randint(1, 3)
            told = is_tree(4, web_of(plan), number, thing)
            self.assertIs(is_need(plan, number, thing), told)
            yes += told
        self.assertGreater(yes, 300)

    def test_no_numbers(self):
        for number in BAD_NUMBERS + [thing for thing in odd_things() if not isinstance(thing, int) or thing is True or thing < 1]:
            with self.assertRaises(NoNumber):
                is_need(T, number, ("all", ((0,), (1,))))


KNOWN = {}


def web_of(plan):
    """The web of a plan, found once."""
    if plan.table not in KNOWN:
        KNOWN[plan.table] = web(plan)
    return KNOWN[plan.table]
