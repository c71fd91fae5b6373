"""12.1 and 12.2: the finest parting of the rows of a question, and answers by the sorts of its parts."""

import unittest

from tests.asking import Q, answered, lots, machine_number, question_of, random_parts, random_question, sorted_question, strings
from tests.test_sorters import ALONE, BAD_SORTERS, PARITY, blown_up
from tests.test_sorts import EQUAL, EQUAL4, EVEN, FIRST, LONGEST, SAME
from tests.things import odd_things, seeded
from wholewalks.errors import TooMany
from wholewalks.partings import boxes, finest, is_answered, is_boxes
from wholewalks.questions import Question
from wholewalks.sorts import sorts_many

# Whether rows 0 and 2 are as long, and row 1 has an a.
APART = question_of(3, 1, (0, 0), lambda state, reading: (int(state[0] or reading[0] != reading[2]), int(state[1] or reading[1] == "a")),
                    lambda state: state == (0, 1))
# Whether rows 0 and 3 are as long, and rows 1 and 2.
TWO = question_of(4, 1, (0, 0), lambda state, reading: (int(state[0] or reading[0] != reading[3]), int(state[1] or reading[1] != reading[2])),
                  lambda state: state == (0, 0))
# Whether each row has a b.
EACH = question_of(3, 2, (0, 0, 0), lambda state, reading: tuple([int(at or sign == "b") for at, sign in zip(state, reading)]),
                   lambda state: state == (1, 1, 1))


def agreeing(rows, many):
    """Whether all rows have the same so many first letters, or are the same and shorter."""
    def step(state, reading):
        if state in ("no", many):
            return state
        return state + 1 if len(set(reading)) == 1 else "no"

    return question_of(rows, 2, 0, step, lambda state: state != "no")


def in_pairs(many):
    """Whether the first so many letters of rows 0 and 2 are the same, and those of rows 1 and 3."""
    def step(state, reading):
        if state in ("no", many):
            return state
        return state + 1 if reading[:2] == reading[2:] else "no"

    return question_of(4, 2, 0, step, lambda state: state != "no")


def all_partings(rows):
    """All partings of so many rows."""
    found = [[]]
    for row in range(rows):
        found = [parts[:at] + [parts[at] + (row,)] + parts[at + 1:] for parts in found for at in range(len(parts))] + [
            parts + [(row,)] for parts in found]
    return [tuple(sorted(parts)) for parts in found]


class FinestTest(unittest.TestCase):

    def test_e11(self):
        self.assertEqual(finest(Q), ((0, 1),))

    def test_by_hand(self):
        self.assertEqual(finest(SAME), ((0,), (1,)))
        self.assertEqual(finest(EVEN), ((0,), (1,)))
        self.assertEqual(finest(FIRST), ((0,), (1,)))
        self.assertEqual(finest(EQUAL), ((0, 1),))
        self.assertEqual(finest(EQUAL4), ((0, 1, 2, 3),))
        self.assertEqual(finest(LONGEST), ((0, 1, 2),))
        self.assertEqual(finest(APART), ((0, 2), (1,)))
        self.assertEqual(finest(TWO), ((0, 3), (1, 2)))
        self.assertEqual(finest(EACH), ((0,), (1,), (2,)))

    def test_lots_of_two_rows_are_asked_only_if_need_be(self):
        # There are 127 sorts of each row, and more than 3000 of rows 0 and 1.
        question = in_pairs(6)
        self.assertEqual(finest(question), ((0,), (1,), (2,), (3,)))
        self.assertIs(is_answered(question, ((0,), (1,), (2,), (3,))), True)
        with self.assertRaises(TooMany) as caught:
            is_answered(question, ((0, 1), (2, 3)))
        self.assertEqual(caught.exception.most, 3000)
        self.assertIs(is_answered(question, ((0, 1), (2, 2))), False)

    def test_lots_are_its_parts_put_together(self):
        rng = seeded(140)
        met = {}
        for number in range(60):
            rows = rng.randint(2, 4)
            letters = rng.randint(1, 2) if rows < 4 else 1
            if number % 3 == 0:
                question = random_question(rng, rows, letters, rng.randint(1, 3))
            else:
                question = sorted_question(rng, rows, letters, random_parts(rng, rows))
            parting = finest(question)
            self.assertIn(parting, all_partings(rows))
            met[parting] = True
            for lot in lots(rows):
                told = all([set(part) <= set(lot) or not set(part) & set(lot) for part in parting])
                self.assertEqual(sorts_many(question, lot) is not None, told)
        self.assertGreater(len(met), 7)


class IsAnsweredTest(unittest.TestCase):

    def test_by_hand(self):
        for question in (Q, EQUAL, SAME, EVEN, EQUAL4, LONGEST, APART, TWO, EACH):
            parts = finest(question)
            for parting in all_partings(question.rows):
                told = all([any([set(part) <= set(other) for other in parting]) for part in parts])
                self.assertIs(is_answered(question, parting), told, parting)

    def test_what_is_no_parting(self):
        for thing in [(), ((0,),), ((1,), (0,)), ((0, 1), ()), ((), (0, 1)), ((0,), (0, 1)), ((0,), (1,), (1,)), ((0, 0), (1,)), ((1, 0),),
                      [(0,), (1,)], ([0], [1]), ((0,), [1]), (0, 1), ((0,), (True,)), ((False,), (1,)), ((0,), (1,), (2,)), ((0,), (2,)),
                      ((0,), (-1,)), ((0,), ("1",)), ((0,), (10 ** 39,)), ((0,), None), None, "01", ("0", "1"), {0: 1}, ((0, 1), 0)]:
            self.assertIs(is_answered(SAME, thing), False, thing)
            self.assertIs(is_answered(Q, thing), False, thing)
        for thing in odd_things():
            self.assertIs(is_answered(SAME, thing), False)
            self.assertIs(is_answered(SAME, ((0,), thing)), False)
            self.assertIs(is_answered(SAME, ((0,), (thing,))), False)
        self.assertIs(is_answered(SAME, ((0,), (1,))), True)
        self.assertIs(is_answered(Q, ((0, 1),)), True)


class BoxesTest(unittest.TestCase):

    def right(self, rng, question):
        found = boxes(question)
        parting = finest(question)
        if len(parting) == 1:
            self.assertIsNone(found)
            return None
        self.assertEqual((type(found), len(found), found[0]), (tuple, 3, parting))
        self.assertEqual((type(found[1]), len(found[1]), type(found[2])), (tuple, len(parting), dict))
        many = 1
        for part, machine in zip(parting, found[1]):
            self.assertEqual(sorted(set(machine[1])), list(range(sorts_many(question, part))))
            many *= len(set(machine[1]))
        self.assertEqual(len(found[2]), many)
        for _ in range(40):
            words = tuple([rng.choice(strings(question.letters, 5)) for _ in range(question.rows)])
            self.assertIs(found[2][told(question, found, words)], answered(question, words))
        self.assertIs(is_boxes(question, found), True)
        return found

    def test_by_hand(self):
        rng = seeded(141)
        for question in (Q, EQUAL, EQUAL4, LONGEST):
            self.assertIsNone(self.right(rng, question))
        for question in (SAME, EVEN, FIRST, APART, TWO, EACH):
            self.assertIsNotNone(self.right(rng, question))
        self.assertEqual(boxes(SAME)[2], {(0, 0): True})
        self.assertEqual(sorted(boxes(EACH)[2].values()), [False] * 7 + [True])

    def test_by_chance(self):
        rng = seeded(142)
        met = 0
        for _ in range(40):
            rows = rng.randint(2, 4)
            question = sorted_question(rng, rows, rng.randint(1, 2) if rows < 4 else 1, random_parts(rng, rows))
            met += self.right(rng, question) is not None
        self.assertGreater(met, 15)

    def test_small_questions_are_never_too_many(self):
        rng = seeded(143)
        for _ in range(300):
            boxes(random_question(rng, 2, 1, 4))

    def test_a_table_too_large(self):
        # Whether all four rows have the same first five letters: each row has 63 sorts, so there would be 63 ** 4 keys.
        question = agreeing(4, 5)
        self.assertEqual(finest(question), ((0,), (1,), (2,), (3,)))
        self.assertEqual(sorts_many(question, (2,)), 63)
        with self.assertRaises(TooMany) as caught:
            boxes(question)
        self.assertEqual(caught.exception.most, 3000)
        self.assertEqual(len(boxes(agreeing(4, 2))[2]), 7 ** 4)
        self.assertEqual(len(boxes(agreeing(2, 5))[2]), 63 ** 2)

    def test_each_table_is_new(self):
        boxes(EVEN)[2].clear()
        self.assertEqual(len(boxes(EVEN)[2]), 4)


def told(question, found, words):
    """The numbers that the sorters of boxes tell of words of all rows."""
    return tuple([machine_number(question, part, machine, tuple([words[row] for row in part])) for part, machine in zip(found[0], found[1])])


class IsBoxesTest(unittest.TestCase):

    def test_other_partings(self):
        # Rows 0 and 1 as one part: a sorter that tells which of them have a b yet.
        states = [(0, 0), (0, 1), (1, 0), (1, 1)]
        pairs = [(one, other) for one in "-ab" for other in "-ab"][1:]
        nexts = [tuple([states.index((int(state[0] or one == "b"), int(state[1] or other == "b"))) for one, other in pairs])
                 for state in states]
        single = (((0, 1), (1, 1)), (0, 1))
        wide = (tuple(nexts), (0, 0, 0, 1))
        table = {(one, other): one == other == 1 for one in (0, 1) for other in (0, 1)}
        self.assertIs(is_boxes(EACH, (((0, 1), (2,)), (wide, single), table)), True)
        self.assertIs(is_boxes(EACH, (((0, 1), (2,)), (single, wide), table)), False)
        self.assertIs(is_boxes(EACH, (((0, 2), (1,)), (wide, single), table)), True)
        self.assertIs(is_boxes(EACH, (((2,), (0, 1)), (single, wide), table)), False)
        self.assertIs(is_boxes(EACH, (((0,), (1, 2)), (single, wide), table)), True)
        self.assertIs(is_boxes(EACH, (((0,), (1,), (2,)), (single,) * 3, boxes(EACH)[2])), True)
        self.assertIs(is_boxes(EACH, (((0, 1, 2),), (single,), {(0,): False, (1,): True})), False)
        # A parting of one part is no such one, though its sorter tells the answers.
        self.assertIs(is_boxes(SAME, (((0, 1),), ((((0, 0, 0),), (0,)),), {(0,): True})), False)
        # One number for what is of unlike sorts.
        self.assertIs(is_boxes(EACH, (((0, 1), (2,)), ((wide[0], (0, 0, 1, 1)), single), table)), False)

    def test_keys(self):
        parting, machines, table = boxes(EVEN)
        self.assertIs(is_boxes(EVEN, (parting, machines, table)), True)
        for key in table:
            self.assertIs(is_boxes(EVEN, (parting, machines, {other: table[other] for other in table if other != key})), False)
            self.assertIs(is_boxes(EVEN, (parting, machines, {**table, key: not table[key]})), False)
            for flag in (0, 1, None, "yes", int(table[key])):
                self.assertIs(is_boxes(EVEN, (parting, machines, {**table, key: flag})), False)
        for key in [(2, 0), (0, 2), (0,), (0, 0, 0), 0, "00", (), None, (0, "0"), ("0", 0), (-1, 0), (0, 10 ** 39), ((0, 0),)]:
            self.assertIs(is_boxes(EVEN, (parting, machines, {**table, key: True})), False)
            less = {other: table[other] for other in table if other != (0, 0)}
            self.assertIs(is_boxes(EVEN, (parting, machines, {**less, key: table[0, 0]})), False)

    def test_numbers_that_are_never_told_have_keys_too(self):
        machine = (((0,), (0,)), (3, 5))
        table = {(one, other): True for one in (3, 5) for other in (3, 5)}
        self.assertIs(is_boxes(SAME, (((0,), (1,)), (machine, machine), table)), True)
        self.assertIs(is_boxes(SAME, (((0,), (1,)), (machine, machine), {**table, (5, 3): False})), True)
        self.assertIs(is_boxes(SAME, (((0,), (1,)), (machine, machine), {**table, (5, 3): 0})), False)
        self.assertIs(is_boxes(SAME, (((0,), (1,)), (machine, machine), {**table, (3, 3): False})), False)
        self.assertIs(is_boxes(SAME, (((0,), (1,)), (machine, machine), {(3, 3): True})), False)
        self.assertIs(is_boxes(SAME, (((0,), (1,)), (machine, ALONE), {(3, 0): True, (5, 0): False})), True)
        self.assertIs(is_boxes(SAME, (((0,), (1,)), (PARITY, ALONE), {(1, 0): True, (0, 0): True})), True)

    def test_endlessly_many_sorts(self):
        self.assertIs(is_boxes(Q, (((0,), (1,)), (PARITY, PARITY), {(0, 0): True, (0, 1): False, (1, 0): False, (1, 1): True})), False)
        self.assertIs(is_boxes(Q, (((0,), (1,)), (ALONE, ALONE), {(0, 0): True})), False)
        self.assertIs(is_boxes(Q, (((0, 1),), ((((0, 0, 0),), (0,)),), {(0,): True})), False)
        parting, machines, table = boxes(APART)
        self.assertIs(is_boxes(APART, (((0,), (1,), (2,)), (machines[1],) * 3, {key + (0,): True for key in table})), False)

    def test_blown_up_and_changed_by_chance(self):
        rng = seeded(144)
        met = {}
        while len(met) < 2 or sum(met.values()) < 60:
            rows = rng.randint(2, 3)
            question = sorted_question(rng, rows, rng.randint(1, 2), random_parts(rng, rows))
            found = boxes(question)
            if found is None or len(found[2]) == 1:
                continue
            parting, machines, table = found
            more = tuple([blown_up(rng, machine, 2) for machine in machines])
            self.assertIs(is_boxes(question, (parting, more, table)), True)
            nexts = [list(way) for way in more[0][0]]
            way = rng.choice(nexts)
            way[rng.randrange(len(way))] = rng.randrange(len(nexts))
            changed = ((tuple([tuple(way) for way in nexts]), more[0][1]),) + more[1:]
            wrong = False
            for _ in range(300):
                words = tuple([rng.choice(strings(question.letters, 4)) for _ in range(rows)])
                wrong = wrong or table[told(question, (parting, changed), words)] is not answered(question, words)
            judged = is_boxes(question, (parting, changed, table))
            if wrong:
                self.assertIs(judged, False)
            met[judged] = met.get(judged, 0) + 1

    def test_odd_things(self):
        parting, machines, table = boxes(EVEN)
        for thing in odd_things() + [[parting, machines, table], (parting, machines), (parting, machines, table, 0),
                                     (parting, list(machines), table), (list(parting), machines, table), (parting, machines[:1], table),
                                     (parting, machines + machines[:1], table), (parting, machines, list(table.items())),
                                     (parting, machines, tuple(table.items())), None, (machines, parting, table)]:
            self.assertIs(is_boxes(EVEN, thing), False)
        for thing in odd_things() + BAD_SORTERS:
            self.assertIs(is_boxes(EVEN, (thing, machines, table)), False)
            self.assertIs(is_boxes(EVEN, (parting, thing, table)), False)
            self.assertIs(is_boxes(EVEN, (parting, machines, thing)), False)
            self.assertIs(is_boxes(EVEN, (parting, (machines[0], thing), table)), False)
            self.assertIs(is_boxes(EVEN, (parting, (thing, machines[1]), table)), False)
            if not isinstance(thing, bool):
                self.assertIs(is_boxes(EVEN, (parting, machines, {**table, (0, 0): thing})), False)
        self.assertIs(is_boxes(Question(2, 2, EVEN.table), (parting, machines, table)), True)


if __name__ == "__main__":
    unittest.main()
