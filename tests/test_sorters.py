"""11.5: sorters of lots."""

import unittest

from tests.asking import (LETTERS, Q, all_words, lots, machine_number, question_of, random_parts, random_question, readings, signature,
                          sorted_question, strings)
from tests.test_sorts import BAD_LOTS, EQUAL, EQUAL4, EVEN, FIRST, SAME, asked
from tests.things import P, odd_things, seeded
from wholewalks.errors import NoLot, NoSorter, NoWords, TooMany
from wholewalks.questions import Question
from wholewalks.sorters import is_sorter, sorted_by, sorter
from wholewalks.sorts import parted, sorts_many

ALONE = (((0,),), (0,))
PARITY = (((1,), (0,)), (0, 1))
BAD_SORTERS = [(), (((0,),),), (((0,),), (0,), 0), [((0,),), (0,)], ([(0,)], (0,)), (((0,),), [0]), (([0],), (0,)), ((), ()), (((0,),), ()),
               ((), (0,)), (((0,), (0,)), (0,)), (((0,),), (0, 0)), (((1,),), (0,)), (((-1,),), (0,)), (((0, 0),), (0,)), (((),), (0,)),
               (((0,),), (-1,)), (((0,),), (True,)), (((0,),), (None,)), (((0,),), ("0",)), (((False,),), (0,)), (((0,),), ((0,),)),
               ((0,), (0,)), (((10 ** 39,),), (0,)), None, 0, "", {0: 0}, (((0,),), 0), (0, (0,)), ((("0",),), (0,))]


def blown_up(rng, machine, times=3):
    """A sorter that tells the same, with each standing so many times."""
    nexts, numbers = machine
    many = len(nexts)
    order = list(range(1, many * times))
    rng.shuffle(order)
    order = [0] + order
    spots = {}
    for spot, item in enumerate(order):
        spots.setdefault(item % many, []).append(spot)
    table = [tuple([rng.choice(spots[target]) for target in nexts[item % many]]) for item in order]
    return (tuple(table), tuple([numbers[item % many] for item in order]))


class SortedByTest(unittest.TestCase):

    def test_by_hand(self):
        self.assertEqual(sorted_by(Q, (0,), PARITY, ("aaa",)), 1)
        self.assertEqual(sorted_by(Q, (1,), PARITY, ("",)), 0)
        self.assertEqual(sorted_by(Q, (1,), (((1,), (2,), (2,)), (7, 10 ** 39, 0)), ("a",)), 10 ** 39)
        self.assertEqual(sorted_by(Q, (1,), (((1,), (2,), (2,)), (7, 8, 0)), ("a" * 60,)), 0)
        # The readings of two rows of two letters, each with a standing that tells it.
        machine = ((tuple(range(1, 9)),) * 9, tuple(range(9)))
        for number, reading in enumerate(readings(2, 2)):
            words = tuple([sign.strip("-") for sign in reading])
            self.assertEqual(sorted_by(EQUAL4, (1, 3), machine, words), number + 1)
        self.assertEqual(sorted_by(EQUAL4, (0, 2), machine, ("ab", "b")), 6)

    def test_by_chance(self):
        rng = seeded(130)
        for _ in range(60):
            question = random_question(rng, rng.randint(2, 4), None, 1)
            lot = rng.choice(lots(question.rows))
            many = rng.randint(1, 6)
            size = len(readings(len(lot), question.letters))
            machine = (tuple([tuple([rng.randrange(many) for _ in range(size)]) for _ in range(many)]),
                       tuple([rng.randrange(4) for _ in range(many)]))
            for words in [tuple([rng.choice(strings(question.letters, 4)) for _ in lot]) for _ in range(10)]:
                self.assertEqual(sorted_by(question, lot, machine, words), machine_number(question, lot, machine, words))

    def test_errors(self):
        for lot in BAD_LOTS + odd_things():
            with self.assertRaises(NoLot):
                sorted_by(Q, lot, None, None)
            with self.assertRaises(NoLot):
                sorter(Q, lot)
            with self.assertRaises(NoLot):
                is_sorter(Q, lot, ALONE)
        for machine in BAD_SORTERS + odd_things():
            with self.assertRaises(NoSorter):
                sorted_by(Q, (0,), machine, None)
            with self.assertRaises(NoSorter):
                sorted_by(Q, (0,), machine, ("a",))
        for words in [("a", "a"), (), "a", ["a"], ("b",), (None,), (0,), None, P]:
            with self.assertRaises(NoWords):
                sorted_by(Q, (0,), ALONE, words)
        # A sorter of one row is none of two.
        with self.assertRaises(NoSorter):
            sorted_by(EQUAL4, (0, 1), (((0, 0),), (0,)), ("a", "a"))
        with self.assertRaises(NoSorter):
            sorted_by(EQUAL4, (0,), ALONE, ("a",))


class SorterTest(unittest.TestCase):

    def right(self, question, lot):
        """Holds what sorter tells, if it tells something."""
        machine = sorter(question, lot)
        many = sorts_many(question, lot)
        if many is None:
            self.assertIsNone(machine)
            return None
        self.assertEqual(sorted(set(machine[1])), list(range(many)))
        self.assertIs(is_sorter(question, lot, machine), True)
        words = all_words(len(lot), question.letters, 4 if len(lot) == 1 else 2)
        others = all_words(question.rows - len(lot), question.letters, 4 if question.rows - len(lot) == 1 else 2)
        numbers = {}
        for some in words:
            number = sorted_by(question, lot, machine, some)
            first = numbers.setdefault(number, some)
            self.assertIsNone(parted(question, lot, first, some))
            self.assertEqual(signature(question, lot, first, others), signature(question, lot, some, others))
        for one in numbers.values():
            for other in numbers.values():
                self.assertEqual(parted(question, lot, one, other) is None, one == other)
        return machine

    def test_by_hand(self):
        self.assertIsNone(sorter(Q, (0,)))
        self.assertIsNone(sorter(EQUAL, (1,)))
        self.assertIsNone(sorter(EQUAL4, (0, 3)))
        self.assertEqual(self.right(SAME, (0,))[1], (0,))
        for question in (EVEN, FIRST):
            for lot in [(0,), (1,)]:
                self.right(question, lot)

    def test_of_three_rows(self):
        # Whether row 1 has as many letters as one of the others at least, row 3 telling whether that is asked.
        question = question_of(4, 1, "go", lambda state, reading: state if state != "go" else (
            "no" if reading[3] == "-" and reading[1] == "-" else "yes" if reading[1] == "-" else "go"), lambda state: state == "yes")
        for lot in lots(4):
            self.right(question, lot)

    def test_by_chance(self):
        rng = seeded(131)
        met = {}
        for _ in range(50):
            question, lot = asked(rng)
            machine = self.right(question, lot)
            met[machine and max(machine[1])] = True
        self.assertGreater(len(met), 4)

    def test_too_many(self):
        question = question_of(4, 2, 0, lambda state, reading: state if state in (6, 7) else (
            state + 1 if reading[:2] == reading[2:] else 7), lambda state: state != 7)
        with self.assertRaises(TooMany) as caught:
            sorter(question, (0, 1))
        self.assertEqual(caught.exception.most, 3000)
        # What is judged is never too much.
        self.assertIs(is_sorter(question, (0, 1), (((0,) * 8,), (0,))), False)

    def test_of_four_rows_by_chance(self):
        rng = seeded(132)
        for _ in range(8):
            question = sorted_question(rng, 4, 1, random_parts(rng, 4))
            self.right(question, rng.choice(lots(4)))


class IsSorterTest(unittest.TestCase):

    def test_by_hand(self):
        # Evenly many b or not.
        machine = (((0, 1), (1, 0)), (0, 1))
        self.assertIs(is_sorter(EVEN, (0,), machine), True)
        self.assertIs(is_sorter(EVEN, (0,), (machine[0], (5, 10 ** 39))), True)
        self.assertIs(is_sorter(EVEN, (0,), (machine[0], (1, 1))), False)
        self.assertIs(is_sorter(EVEN, (0,), (((0, 0),), (0,))), False)
        self.assertIs(is_sorter(EVEN, (1,), machine), False)
        self.assertIs(is_sorter(EVEN, (1,), (((0, 1), (1, 1)), (0, 1))), True)
        # A standing that is never met may have any number.
        self.assertIs(is_sorter(EVEN, (0,), (((0, 1), (1, 0), (2, 0)), (0, 1, 0))), True)
        self.assertIs(is_sorter(EVEN, (0,), (((0, 1), (1, 0), (2, 0)), (0, 1, 9))), True)
        self.assertIs(is_sorter(EVEN, (0,), (((0, 1), (2, 0), (1, 0)), (0, 1, 0))), False)
        # More standings than needed, and more numbers than sorts.
        self.assertIs(is_sorter(EVEN, (0,), (((2, 1), (3, 0), (0, 3), (1, 2)), (0, 1, 0, 1))), True)
        self.assertIs(is_sorter(EVEN, (0,), (((2, 1), (3, 0), (0, 3), (1, 2)), (0, 1, 7, 4))), True)
        self.assertIs(is_sorter(EVEN, (0,), (((2, 1), (3, 0), (0, 3), (1, 2)), (0, 1, 1, 0))), False)
        self.assertIs(is_sorter(SAME, (0,), ALONE), True)
        self.assertIs(is_sorter(SAME, (0,), PARITY), True)

    def test_endlessly_many_sorts(self):
        for machine in (ALONE, PARITY, (tuple([(min(at + 1, 30),) for at in range(31)]), tuple(range(31)))):
            self.assertIs(is_sorter(Q, (0,), machine), False)
            self.assertIs(is_sorter(Q, (1,), machine), False)
        self.assertIs(is_sorter(EQUAL4, (0, 1), (((0,) * 8,), (0,))), False)

    def test_readings_that_cannot_come(self):
        # Of rows 0 and 1 only whether row 0 is the longer one is asked: behind -a there is no a-.
        question = question_of(3, 1, "start", lambda state, reading: state if state != "start" else {"a-": True, "-a": False, "--": False}.get(
            reading[0] + reading[1], "start"), lambda state: state is True)
        machine = sorter(question, (0, 1))
        self.assertIs(is_sorter(question, (0, 1), machine), True)
        # -a, a-, aa: the first leads to 1, the second to 2; from 1 and 2 on only the same can come.
        made = (((1, 2, 0), (1, 0, 0), (0, 2, 0)), (0, 1, 2))
        self.assertIs(is_sorter(question, (0, 1), made), True)
        self.assertIs(is_sorter(question, (0, 1), (made[0], (1, 1, 2))), parted(question, (0, 1), ("", ""), ("", "a")) is None)
        self.assertIs(is_sorter(question, (0, 1), (made[0], (0, 1, 1))), False)

    def test_blown_up_and_changed_by_chance(self):
        rng = seeded(133)
        met = {}
        number = 0
        while number < 60:
            question, lot = asked(rng)
            machine = sorter(question, lot)
            if machine is None or len(machine[0]) == 1:
                continue
            number += 1
            more = blown_up(rng, machine)
            self.assertIs(is_sorter(question, lot, more), True)
            gaps = [rng.randrange(10 ** 6) * 2 + at for at in range(2)]
            self.assertIs(is_sorter(question, lot, (more[0], tuple([3 * told + gaps[0] for told in more[1]]))), True)
            self.assertIs(is_sorter(question, lot, (more[0], tuple(range(len(more[1]))))), True)
            self.assertIs(is_sorter(question, lot, (more[0], (0,) * len(more[1]))), max(machine[1]) == 0)
            nexts = [list(way) for way in more[0]]
            for _ in range(2):
                way = rng.choice(nexts)
                way[rng.randrange(len(way))] = rng.randrange(len(nexts))
            changed = (tuple([tuple(way) for way in nexts]), more[1])
            words = all_words(len(lot), question.letters, 6 if len(lot) == 1 else 3)
            firsts = {}
            clash = [some for some in words if parted(question, lot, firsts.setdefault(
                machine_number(question, lot, changed, some), some), some) is not None]
            if clash:
                self.assertIs(is_sorter(question, lot, changed), False)
            met[is_sorter(question, lot, changed)] = True
        self.assertEqual(len(met), 2)

    def test_odd_things(self):
        for thing in BAD_SORTERS + odd_things():
            self.assertIs(is_sorter(SAME, (0,), thing), False)
        for thing in odd_things():
            self.assertIs(is_sorter(SAME, (0,), (thing, (0,))), False)
            self.assertIs(is_sorter(SAME, (0,), (((0,),), thing)), thing in ((0,),) and type(thing[0]) is int)
            self.assertIs(is_sorter(SAME, (0,), ((thing,), (0,))), thing in ((0,),) and type(thing[0]) is int)
            self.assertIs(is_sorter(SAME, (0,), (((0,),), (thing,))), type(thing) is int and thing >= 0)

    def test_many_standings(self):
        many = 3000
        machine = (tuple([((at + 1) % many,) for at in range(many)]), tuple([at % 2 for at in range(many)]))
        question = question_of(2, 1, 0, lambda state, reading: (state + (reading[0] == "a")) % 2, lambda state: state == 0)
        self.assertIs(is_sorter(question, (0,), machine), True)
        self.assertIs(is_sorter(question, (0,), (machine[0], machine[1][:-1] + (0,))), False)
        self.assertEqual(sorted_by(question, (0,), machine, ("a" * 59,)), 1)
        self.assertEqual(LETTERS, "ab")
        self.assertIsNotNone(Question(2, 1, question.table))


if __name__ == "__main__":
    unittest.main()
