"""11.1 and 11.2: questions about words that are read side by side."""

import unittest

from tests.asking import Q, all_words, answered, question_of, random_question, readings
from tests.things import P, T, odd_things, seeded
from wholewalks.errors import BadQuestion, NoWords
from wholewalks.questions import Question, answer

ONE = ((True, (0, 0, 0)),)
BAD_WORDS = [("a",), ("a", "a", "a"), ["a", "a"], ("a", "b"), ("a", "-"), ("a", "A"), ("a", " a"), ("a", "a\n"), ("a", None), ("a", 0),
             ("a", b"a"), ("a", ["a"]), ("a", ("a",)), (True, "a"), "aa", None, (), {0: "a", 1: "a"}, (("a", ""), ("a", ""))]


class QuestionTest(unittest.TestCase):

    def bad(self, part, *parts):
        with self.assertRaises(BadQuestion) as caught:
            Question(*parts)
        self.assertEqual(caught.exception.part, part)

    def test_attributes(self):
        self.assertEqual((Q.rows, Q.letters, Q.table), (2, 1, ((True, (1, 1, 0)), (False, (1, 1, 1)))))
        for rows in (2, 3, 4):
            for letters in (1, 2):
                size = len(readings(rows, letters))
                for many in (1, 8):
                    table = tuple([(at % 2 == 0, tuple([(at + place) % many for place in range(size)])) for at in range(many)])
                    question = Question(rows, letters, table)
                    self.assertEqual((question.rows, question.letters, question.table), (rows, letters, table))

    def test_equal(self):
        self.assertTrue(Q == Question(2, 1, Q.table))
        self.assertFalse(Q != Question(2, 1, Q.table))
        self.assertFalse(Q == Question(2, 1, Q.table[:1] + ((True, (1, 1, 1)),)))
        self.assertFalse(Q == Question(2, 1, ONE))
        self.assertFalse(Question(2, 1, ONE) == Question(3, 1, ((True, (0,) * 7),)))
        self.assertFalse(Question(3, 1, ((True, (0,) * 7),)) == Question(2, 2, ((True, (0,) * 8),)))
        for thing in odd_things() + [(2, 1, Q.table)]:
            self.assertFalse(Q == thing)

    def test_rows(self):
        for rows in [0, 1, 5, -2, 10 ** 39, True, False, None, "2", (2,), [2], T]:
            self.bad("rows", rows, 1, ONE)
            self.bad("rows", rows, 0, None)
        for thing in odd_things():
            self.bad("rows", thing, 1, ONE)

    def test_letters(self):
        for letters in [0, 3, -1, 10 ** 39, True, False, None, "1", (1,), "a"]:
            self.bad("letters", 2, letters, ONE)
            self.bad("letters", 2, letters, None)
        for thing in odd_things():
            self.bad("letters", 2, thing, ONE)

    def test_table(self):
        good = (True, (0, 0, 0))
        for table in [(), [good], (list(good),), ((True, [0, 0, 0]),), ((True, (0, 0)),), ((True, (0, 0, 0, 0)),), ((1, (0, 0, 0)),),
                      ((0, (0, 0, 0)),), ((None, (0, 0, 0)),), (("yes", (0, 0, 0)),), ((True, (0, 0, 1)),), ((True, (0, -1, 0)),),
                      ((True, (False, 0, 0)),), ((True, (0, 0, 10 ** 39)),), ((True, (0, "0", 0)),), ((True, (0, 0, 0), 0),), ((True,),),
                      (good, None), (good,) * 9, {0: good}, (good, (True, (0, 0, 2))), ((True, "000"),), ((), ()), (Q, Q), good]:
            self.bad("table", 2, 1, table)
        for thing in odd_things():
            self.bad("table", 2, 1, thing)
            self.bad("table", 2, 1, (good, thing))
            self.bad("table", 2, 1, ((True, thing),))
            if thing is not True and thing is not False:
                self.bad("table", 2, 1, ((thing, (0, 0, 0)),))
        self.assertEqual(Question(2, 1, (good,) * 8).table, (good,) * 8)
        # One for each reading: of two letters there are eight.
        self.bad("table", 2, 2, ONE)
        self.bad("table", 3, 1, ONE)


class AnswerTest(unittest.TestCase):

    def test_e11(self):
        self.assertIs(answer(Q, ("aa", "a")), False)

    def test_by_hand(self):
        self.assertIs(answer(Q, ("", "")), True)
        self.assertIs(answer(Q, ("aa", "aa")), True)
        self.assertIs(answer(Q, ("", "a")), False)
        # The readings of two rows of two letters: -a -b a- aa ab b- ba bb; each one leads to a standing that tells it.
        flags = [(2, False)] + [(at, at in (2, 5)) for at in range(1, 8)]
        table = tuple([(flag, (0, 1, 2, 3, 4, 5, 6, 7)) for _, flag in flags])
        question = Question(2, 2, table)
        for words, flag in [(("", "a"), False), (("", "b"), False), (("a", ""), True), (("a", "a"), False), (("a", "b"), False),
                            (("b", ""), True), (("b", "a"), False), (("bb", "a"), True), (("ab", "bb"), False), (("", ""), False)]:
            self.assertIs(answer(question, words), flag, words)
        # Three rows: the last reading tells.
        question = question_of(3, 1, "", lambda state, reading: "".join(reading), lambda state: state == "-a-")
        self.assertIs(answer(question, ("a", "aa", "a")), True)
        self.assertIs(answer(question, ("aa", "aa", "a")), False)
        self.assertIs(answer(question, ("a", "aaa", "a")), True)

    def test_by_chance(self):
        rng = seeded(120)
        for _ in range(60):
            question = random_question(rng, rng.randint(2, 4), None, rng.randint(1, 8))
            words = all_words(question.rows, question.letters, 2)
            for some in rng.sample(words, min(30, len(words))):
                self.assertIs(answer(question, some), answered(question, some))
        long = tuple(["ab" * 30 for _ in range(4)])
        question = random_question(rng, 4, 2, 8)
        self.assertIs(answer(question, long), answered(question, long))

    def test_errors(self):
        for words in BAD_WORDS + odd_things():
            with self.assertRaises(NoWords):
                answer(Q, words)
        for thing in odd_things():
            if thing != "a" * 9999:
                with self.assertRaises(NoWords):
                    answer(Q, ("a", thing))
        with self.assertRaises(NoWords):
            answer(Question(2, 2, ((True, (0,) * 8),)), ("abc", ""))
        with self.assertRaises(NoWords):
            answer(Q, P)


if __name__ == "__main__":
    unittest.main()
