"""11.3 and 11.4: words of a lot that no words of the other rows tell apart."""

import unittest

from tests.asking import (Q, all_words, answered, joined, least_first, lots, question_of, random_parts, random_question, signature,
                          sorted_question)
from tests.test_questions import BAD_WORDS
from tests.things import P, T, odd_things, seeded
from wholewalks.errors import NoLot, NoNumber, NoWords, TooMany
from wholewalks.questions import Question
from wholewalks.sorts import least_word, parted, some_sorts, sorts_many

BAD_LOTS = [(), (0, 1), (1, 0), (0, 0), (2,), (-1,), (10 ** 39,), (True,), (False,), ("0",), ((0,),), [0], 0, None, "0", {0: 0}, (0, None)]
SAME = Question(2, 1, ((True, (0, 0, 0)), (False, (1, 1, 0))))
# The same letters at each place, of two rows and of four.
EQUAL = question_of(2, 2, 0, lambda state, reading: 0 if state == 0 and len(set(reading)) == 1 else 1, lambda state: state == 0)
EQUAL4 = question_of(4, 2, 0, lambda state, reading: 0 if state == 0 and len(set(reading)) == 1 else 1, lambda state: state == 0)
# Whether there are evenly many b in row 0, and some b in row 1.
EVEN = question_of(2, 2, (0, 0), lambda state, reading: ((state[0] + (reading[0] == "b")) % 2, max(state[1], int(reading[1] == "b"))),
                   lambda state: state == (0, 1))
# Whether the words agree in their first letters alone, or both are empty.
FIRST = question_of(2, 2, "start", lambda state, reading: len(set(reading)) == 1 if state == "start" else state,
                    lambda state: state in ("start", True))
# Whether row 2 is just as long as the longer one of the first two.
LONGEST = question_of(3, 1, 0, lambda state, reading: 0 if state == 0 and reading[2] == "a" and "a" in reading[:2] else 1,
                      lambda state: state == 0)


class PartedTest(unittest.TestCase):

    def right(self, question, lot, first, second):
        """Holds what parted tells, and returns whether the words are of one sort."""
        found = parted(question, lot, first, second)
        if found is not None:
            self.assertEqual((type(found), len(found)), (tuple, question.rows - len(lot)))
            self.assertIsNot(answered(question, joined(question, lot, first, found)),
                             answered(question, joined(question, lot, second, found)))
        return found is None

    def test_by_hand(self):
        self.assertIn(parted(Q, (0,), ("a",), ("",)), [("a",), ("",)])
        self.assertIsNone(parted(Q, (0,), ("aaa",), ("aaa",)))
        self.assertIsNone(parted(SAME, (0,), ("aaa",), ("",)))
        self.assertTrue(self.right(EVEN, (0,), ("bb",), ("aaa",)))
        self.assertFalse(self.right(EVEN, (0,), ("b",), ("aaa",)))
        self.assertTrue(self.right(EVEN, (1,), ("b",), ("abab",)))
        self.assertFalse(self.right(EVEN, (1,), ("",), ("abab",)))
        self.assertFalse(self.right(EQUAL, (1,), ("a" * 60,), ("a" * 59,)))
        self.assertFalse(self.right(EQUAL, (0,), ("ab" * 30,), ("ab" * 29 + "aa",)))
        self.assertTrue(self.right(EQUAL4, (0, 2), ("a", "b"), ("b", "")))
        self.assertFalse(self.right(EQUAL4, (0, 1, 3), ("a", "a", "a"), ("b", "", "b")))
        self.assertTrue(self.right(LONGEST, (0, 1), ("aaa", ""), ("a", "aaa")))
        self.assertFalse(self.right(LONGEST, (0, 1), ("aaa", ""), ("aa", "aa")))

    def test_by_chance(self):
        rng = seeded(121)
        met = {}
        for _ in range(60):
            question, lot = asked(rng)
            words = all_words(len(lot), question.letters, 3 if len(lot) == 1 else 2)
            others = all_words(question.rows - len(lot), question.letters, 4 if question.rows == 2 else 2)
            for _ in range(10):
                first, second = rng.choice(words), rng.choice(words)
                is_one = self.right(question, lot, first, second)
                met[is_one] = met.get(is_one, 0) + 1
                if is_one:
                    self.assertEqual(signature(question, lot, first, others), signature(question, lot, second, others))
        self.assertGreater(min(met.values()), 100)

    def test_errors(self):
        for lot in BAD_LOTS + odd_things():
            if lot != (0,) or isinstance(lot[0], bool):
                with self.assertRaises(NoLot):
                    parted(Q, lot, None, None)
        for words in [("a", "a"), (), "a", ["a"], ("b",), (None,), (0,), (True,), (("a",),), None]:
            for pair in [(words, ("a",)), (("a",), words), (words, words)]:
                with self.assertRaises(NoWords):
                    parted(Q, (0,), pair[0], pair[1])
        for thing in odd_things():
            if thing not in (("a",), ("end",)):
                with self.assertRaises(NoWords):
                    parted(Q, (0,), thing, ("a",))
        for words in BAD_WORDS:
            if words != ("a",):
                with self.assertRaises(NoWords):
                    parted(Q, (1,), ("a",), words)


def asked(rng):
    """A question and a lot of its rows, by chance."""
    rows = rng.randint(2, 3)
    if rng.random() < 0.4:
        question = random_question(rng, rows, None, rng.randint(1, 4))
    else:
        question = sorted_question(rng, rows, rng.randint(1, 2), random_parts(rng, rows))
    return question, rng.choice(lots(rows))


class SortsManyTest(unittest.TestCase):

    def test_e11(self):
        self.assertIsNone(sorts_many(Q, (0,)))
        self.assertIsNone(sorts_many(Q, (1,)))

    def test_by_hand(self):
        self.assertEqual(sorts_many(SAME, (0,)), 1)
        self.assertEqual(sorts_many(EVEN, (0,)), 2)
        self.assertEqual(sorts_many(EVEN, (1,)), 2)
        self.assertEqual(sorts_many(FIRST, (0,)), 3)
        self.assertIsNone(sorts_many(EQUAL, (1,)))
        self.assertIsNone(sorts_many(EQUAL4, (0, 3)))
        self.assertIsNone(sorts_many(EQUAL4, (0, 1, 2)))
        self.assertIsNone(sorts_many(LONGEST, (0, 1)))
        self.assertIsNone(sorts_many(LONGEST, (0,)))

    def test_counting(self):
        # Whether row 0 has seven letters.
        question = question_of(2, 1, 0, lambda state, reading: min(state + (reading[0] == "a"), 7), lambda state: state == 7)
        self.assertEqual(sorts_many(question, (0,)), 2)
        self.assertEqual(sorts_many(question, (1,)), 1)
        # Whether both have as many letters, or each three at least: without a letter, with one, two, or more.
        question = question_of(2, 1, 0, lambda state, reading: min(state + 1, 3) if state in (0, 1, 2, 3) and (
            state == 3 or "-" not in reading) else "no", lambda state: state != "no")
        self.assertEqual(sorts_many(question, (0,)), 4)
        self.assertEqual(sorts_many(question, (1,)), 4)

    def test_standings_that_are_never_met(self):
        # Standing 2 would tell as Q does, but nothing leads there.
        question = Question(2, 1, ((True, (0, 1, 1)), (False, (1, 1, 1)), (True, (3, 3, 2)), (False, (3, 3, 3))))
        self.assertEqual(sorts_many(question, (0,)), 2)
        # Nothing but the reading of one row alone leads there: the other one has ended then.
        question = Question(2, 1, ((True, (2, 0, 0)), (False, (1, 1, 1)), (True, (1, 3, 2)), (False, (1, 3, 3))))
        self.assertEqual(sorts_many(question, (1,)), None)
        question = Question(2, 1, ((True, (2, 3, 3)), (False, (1, 1, 1)), (True, (2, 1, 1)), (False, (1, 3, 3))))
        self.assertEqual(sorts_many(question, (0,)), 2)

    def test_rows_that_have_ended_do_not_go_on(self):
        # While row 0 alone goes on, a reading of both, which cannot come, would compare their lengths.
        table = ((True, (1, 2, 0)), (False, (1, 1, 1)), (False, (1, 2, 3)), (True, (1, 1, 3)))
        question = Question(2, 1, table)
        for lot in lots(2):
            self.assertIsNone(sorts_many(question, lot))
        table = ((True, (0, 1, 0)), (True, (1, 1, 2)), (False, (2, 2, 3)), (True, (3, 3, 2)))
        question = Question(2, 1, table)
        self.assertEqual(sorts_many(question, (0,)), 1)

    def test_all_small_questions(self):
        # Each question of two standings, two rows and one letter, against words of up to 9 letters.
        words = all_words(1, 1, 9)
        for number in range(2 ** 8):
            bits = [number >> at & 1 for at in range(8)]
            question = Question(2, 1, ((bits[0] == 1, tuple(bits[1:4])), (bits[4] == 1, tuple(bits[5:]))))
            for lot in lots(2):
                some = [len({signature(question, lot, word, words[:most]) for word in words[:most]}) for most in (7, 10)]
                many = sorts_many(question, lot)
                self.assertEqual(many is None, some[0] < some[1])
                if many is not None:
                    self.assertEqual(many, some[1])

    def test_by_chance(self):
        rng = seeded(122)
        met = {}
        for _ in range(80):
            question, lot = asked(rng)
            words = all_words(len(lot), question.letters, 4 if len(lot) == 1 else 2)
            others = all_words(question.rows - len(lot), question.letters, 4 if question.rows - len(lot) == 1 else 2)
            found = len({signature(question, lot, word, others) for word in words})
            many = sorts_many(question, lot)
            if many is not None:
                self.assertLessEqual(found, many)
                met[found == many] = met.get(found == many, 0) + 1
            rest = tuple([row for row in range(question.rows) if row not in lot])
            self.assertEqual(many is None, sorts_many(question, rest) is None)
        self.assertGreater(met[True], 40)

    def test_errors(self):
        for lot in BAD_LOTS + odd_things():
            for call in (lambda: sorts_many(Q, lot), lambda: some_sorts(Q, lot, -1), lambda: least_word(Q, lot, None)):
                with self.assertRaises(NoLot):
                    call()
        with self.assertRaises(NoLot):
            sorts_many(EQUAL4, (0, 1, 2, 3))
        with self.assertRaises(NoLot):
            sorts_many(EQUAL4, (2, 1))

    def test_too_many(self):
        # Of rows 0 and 1 there are 127 * 127 sorts; some of them can be told before that is known.
        question = question_of(4, 2, 0, lambda state, reading: state if state in (6, 7) else (
            state + 1 if reading[:2] == reading[2:] else 7), lambda state: state != 7)
        for lot in [(0, 1), (2, 3)]:
            for call in (lambda: sorts_many(question, lot), lambda: some_sorts(question, lot, 40)):
                with self.assertRaises(TooMany) as caught:
                    call()
                self.assertEqual(caught.exception.most, 3000)
            with self.assertRaises(NoNumber):
                some_sorts(question, lot, 41)
        self.assertEqual(sorts_many(question, (0,)), 127)
        self.assertEqual(least_word(question, (0, 1), ("abaaba", "abba")), ("abaaba", "abba"))
        self.assertEqual(least_word(question, (0, 1), ("abaabab", "abba")), ("abaaba", "abba"))

    def test_too_many_has_its_bound(self):
        rng = seeded(123)
        for _ in range(30):
            question = random_question(rng, rng.randint(3, 4), 2, 8)
            for lot in lots(question.rows):
                try:
                    sorts_many(question, lot)
                except TooMany as error:
                    self.assertEqual(error.most, 3000)


class SomeSortsTest(unittest.TestCase):

    def right(self, question, lot, many):
        found = some_sorts(question, lot, many)
        self.assertEqual((type(found), len(found)), (list, many))
        for at, words in enumerate(found):
            self.assertEqual((type(words), len(words)), (tuple, len(lot)))
            for other in found[:at]:
                self.assertIsNotNone(parted(question, lot, words, other))

    def test_none(self):
        self.assertEqual(some_sorts(Q, (0,), 0), [])
        self.assertEqual(some_sorts(SAME, (0,), 0), [])

    def test_endlessly_many(self):
        for question, lot in [(Q, (0,)), (Q, (1,)), (EQUAL, (0,)), (EQUAL4, (1,)), (EQUAL4, (0, 1, 2)), (LONGEST, (0, 1)), (LONGEST, (2,))]:
            for many in (1, 7, 40):
                self.right(question, lot, many)

    def test_as_many_as_there_are(self):
        for question, lot in [(SAME, (0,)), (EVEN, (0,)), (EVEN, (1,)), (FIRST, (0,)), (FIRST, (1,))]:
            many = sorts_many(question, lot)
            self.right(question, lot, many)
            with self.assertRaises(NoNumber):
                some_sorts(question, lot, many + 1)
            with self.assertRaises(NoNumber):
                some_sorts(question, lot, 40)

    def test_sorts_that_are_rare(self):
        # Whether both are as long, to three places at once: only then is the next sort met.
        question = question_of(2, 1, 0, lambda state, reading: (state + 1) % 3 if state < 3 and reading == ("a", "a") else
                               (3 if state in (0, 3) else 4), lambda state: state in (0, 4))
        self.assertIsNone(sorts_many(question, (0,)))
        self.right(question, (0,), 40)

    def test_by_chance(self):
        rng = seeded(124)
        for _ in range(25):
            question, lot = asked(rng)
            many = sorts_many(question, lot)
            self.right(question, lot, 40 if many is None else min(many, 40))
            if many is not None and many < 40:
                with self.assertRaises(NoNumber):
                    some_sorts(question, lot, many + 1)

    def test_each_small_question_has_its_forty(self):
        rng = seeded(125)
        met = 0
        while met < 120:
            question = random_question(rng, 2, 1, 4)
            if sorts_many(question, (0,)) is None:
                met += 1
                words = some_sorts(question, (0,), 40)
                self.assertEqual(len(set(words)), 40)
                for other in rng.sample(words[1:], 5):
                    self.assertIsNotNone(parted(question, (0,), words[0], other))

    def test_errors(self):
        for many in [-1, 41, 10 ** 39, True, False, None, "1", (1,), [1], T]:
            with self.assertRaises(NoNumber):
                some_sorts(Q, (0,), many)
            with self.assertRaises(NoLot):
                some_sorts(Q, (2,), many)
        for thing in odd_things():
            with self.assertRaises(NoNumber):
                some_sorts(Q, (0,), thing)

    def test_each_list_is_new(self):
        some_sorts(Q, (0,), 3).clear()
        self.assertEqual(len(some_sorts(Q, (0,), 3)), 3)


class LeastWordTest(unittest.TestCase):

    def test_by_hand(self):
        self.assertEqual(least_word(Q, (0,), ("aaa",)), ("aaa",))
        self.assertEqual(least_word(SAME, (1,), ("aaa",)), ("",))
        self.assertEqual(least_word(EVEN, (0,), ("abab",)), ("",))
        self.assertEqual(least_word(EVEN, (0,), ("aabbb",)), ("b",))
        self.assertEqual(least_word(FIRST, (1,), ("bab",)), ("b",))
        self.assertEqual(least_word(LONGEST, (0, 1), ("aaa", "a")), ("", "aaa"))
        self.assertEqual(least_word(LONGEST, (0, 1), ("", "")), ("", ""))
        self.assertEqual(least_word(LONGEST, (1, 2), ("aa", "aaa")), ("", "aaa"))
        self.assertEqual(least_word(LONGEST, (1, 2), ("aaa", "aaa")), ("aaa", "aaa"))
        self.assertEqual(least_word(EQUAL4, (0, 1, 2), ("a", "b", "a")), ("", "", "a"))
        self.assertEqual(least_word(EQUAL4, (0, 1, 2), ("", "", "")), ("", "", ""))

    def test_the_fewest_letters_come_first(self):
        # Whether the letters of rows 0 and 1 together have row 2 said: two b anywhere are needed, whatever stands beside them.
        question = question_of(3, 2, 0, lambda state, reading: min(2, state + (reading[0] == "b") + (reading[1] == "b")),
                               lambda state: state == 2)
        self.assertEqual(least_word(question, (0, 1), ("aab", "abaa")), ("", "bb"))
        self.assertEqual(least_word(question, (0, 1), ("aab", "aa")), ("", ""))
        # A word that is longer in one row may be the least: a of row 0 counts for two.
        question = question_of(3, 1, 0, lambda state, reading: min(4, state + (reading[0] == "a") + len([
            sign for sign in reading if sign == "a"])), lambda state: state == 3)
        self.assertEqual(least_word(question, (0, 1), ("", "aaa")), ("a", "a"))
        self.assertEqual(least_word(question, (0, 1), ("", "aa")), ("a", ""))

    def test_least_as_tuples(self):
        # Of two rows the one that is less in row 0 comes first, though row 1 is longer there.
        question = question_of(3, 2, 0, lambda state, reading: min(3, state + sum([sign != "-" for sign in reading[:2]])),
                               lambda state: state == 3)
        self.assertEqual(least_word(question, (0, 1), ("ba", "bb")), ("", "aaa"))

    def test_by_chance(self):
        rng = seeded(126)
        for _ in range(60):
            question, lot = asked(rng)
            words = all_words(len(lot), question.letters, 4 if len(lot) == 1 else 3)
            for some in rng.sample(words, 3):
                found = least_word(question, lot, some)
                self.assertIsNone(parted(question, lot, found, some))
                for other in least_first(words):
                    if other == found or least_first([other, found])[0] == found:
                        break
                    self.assertIsNotNone(parted(question, lot, other, some))

    def test_long_words(self):
        long = "abbab" * 12
        self.assertEqual(least_word(EQUAL, (0,), (long,)), (long,))
        self.assertEqual(least_word(EQUAL4, (0, 1, 2), (long,) * 3), (long,) * 3)
        self.assertEqual(least_word(EQUAL4, (0, 1, 2), (long, long, long[:-1])), ("", "", "a"))
        self.assertEqual(least_word(EVEN, (0,), (long,)), ("",))

    def test_errors(self):
        for words in [("a", "a"), (), "a", ["a"], ("b",), (None,), (0,), None, P]:
            with self.assertRaises(NoWords):
                least_word(Q, (0,), words)
        for thing in odd_things():
            if thing != ("a",):
                with self.assertRaises(NoWords):
                    least_word(Q, (1,), thing)


if __name__ == "__main__":
    unittest.main()
