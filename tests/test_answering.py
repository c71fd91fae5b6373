"""12.3: programs that say yes or no to words."""

import unittest

from tests import naive
from tests.asking import (Q, all_words, answered, least_first, question_of, random_parts, random_question, reading_at, sorted_question)
from tests.test_partings import APART, EACH, TWO, agreeing
from tests.test_sorts import EQUAL, EVEN, FIRST, LONGEST, SAME
from tests.things import P, STOP, T, lasting_program, odd_things, random_program, random_word, seeded
from wholewalks.answering import answering, said, wrong_words
from wholewalks.errors import NoNumber, NoWords, OtherQuestion
from wholewalks.partings import finest
from wholewalks.programs import Program
from wholewalks.questions import Question, answer

YES = Program(2, 1, (0, 0), 1, (("say", "yes", 1), STOP))
# Says yes to words of which row 0 has evenly many letters.
EVENLY = Program(2, 1, (0, 0), 1, (("begin", 0, (1, 2)), ("on", 0, (3, 4)), ("say", "yes", 5), ("on", 0, (1, 2)), ("say", "no", 5), STOP))


def words_counted(rows, letters, most):
    """All words of so many rows that have so many letters at most in all."""
    return [words for words in least_first(all_words(rows, letters, most)) if sum([len(word) for word in words]) <= most]


def told(program, words, many=3000):
    """What a program says, found by the plain walk; a run of so many events, or so many deeds without one, goes on for ever."""
    events = naive.walk_events(program, tuple([(word, "") for word in words]), many)
    if events[-1] != STOP:
        return None
    says = [event[1] for event in events if event[0] == "say"]
    return {"yes": True, "no": False}.get(says[-1] if says else None)


def saying(rng, program):
    """The program with other words, which goes now and then to a standing that says one of them and stops."""
    many = len(program.table)
    table = []
    for item in program.table:
        if item[0] == "say":
            item = ("say", rng.choice(("yes", "no", "maybe")), item[2])
        elif item[0] in ("begin", "on"):
            item = item[:2] + (tuple([at if rng.random() < 0.75 else rng.randrange(many, many + 3) for at in item[2]]),)
        table.append(item)
    more = (("say", "yes", many + 2), ("say", "no", many + 2), STOP)
    return Program(program.rows, program.letters, program.dealing, program.depth, tuple(table) + more)


class SaidTest(unittest.TestCase):

    def one(self, *table):
        return said(Program(2, 1, (0, 0), 1, table), ("a", ""))

    def test_by_hand(self):
        self.assertIs(said(YES, ("a", "")), True)
        self.assertIs(said(EVENLY, ("aa", "a")), True)
        self.assertIs(said(EVENLY, ("aaa", "a")), False)
        self.assertIs(self.one(("say", "no", 1), STOP), False)

    def test_neither(self):
        self.assertIsNone(self.one(STOP))
        self.assertIsNone(self.one(("say", "maybe", 1), STOP))
        self.assertIsNone(self.one(("say", "yes", 1), ("say", "x", 2), STOP))
        self.assertIsNone(self.one(("say", "stop", 1), STOP))
        self.assertIs(self.one(("say", "yes", 1), ("say", "no", 2), STOP), False)
        self.assertIs(self.one(("say", "x", 1), ("say", "no", 2), ("say", "yes", 3), STOP), True)

    def test_runs_that_end_otherwise(self):
        self.assertIsNone(self.one(("say", "yes", 1), ("on", 0, (1, 1))))
        self.assertIsNone(self.one(("say", "yes", 1), ("leave", 0, 2), STOP))
        self.assertIsNone(self.one(("say", "yes", 1), ("begin", 0, (2, 2)), ("begin", 1, (3, 3)), STOP))
        self.assertIs(self.one(("say", "yes", 1), ("begin", 1, (2, 2)), ("begin", 0, (3, 3)), STOP), True)

    def test_runs_that_never_end(self):
        self.assertIsNone(self.one(("say", "yes", 0)))
        self.assertIsNone(self.one(("say", "yes", 1), ("say", "no", 0)))
        self.assertIsNone(self.one(("say", "yes", 1), ("begin", 0, (2, 3)), ("leave", 0, 1), STOP))
        self.assertIsNone(self.one(("begin", 0, (1, 2)), ("on", 0, (1, 2)), ("say", "yes", 0)))

    def test_without_depth(self):
        def program(*table):
            return Program(2, 1, (0, 0), None, table)

        # Walks are begun within one another for ever, in silence or with words.
        self.assertIsNone(said(program(("say", "yes", 1), ("begin", 0, (1, 1))), ("a", "")))
        self.assertIsNone(said(program(("say", "yes", 1), ("begin", 0, (0, 0))), ("a", "")))
        self.assertIsNone(said(program(("begin", 0, (1, 2)), ("on", 0, (0, 0)), STOP), ("aaa", "")))
        self.assertIs(said(program(("say", "yes", 1), ("begin", 0, (2, 3)), ("begin", 1, (3, 3)), STOP), ("a", "")), True)
        # Each walk of row 0 within the others goes one place further, and so comes to the end.
        ladder = program(("begin", 0, (1, 2)), ("begin", 0, (3, 2)), ("say", "no", 4), ("on", 0, (1, 2)), STOP)
        for size in range(4):
            self.assertIs(said(ladder, ("a" * size, "")), told(ladder, ("a" * size, "")))
        # Goes down through the open walks and up again, for ever.
        swing = program(("begin", 0, (1, 5)), ("begin", 0, (2, 5)), ("leave", 0, 3), ("say", "yes", 4), ("begin", 1, (2, 1)), STOP)
        self.assertIsNone(said(swing, ("a", "")))

    def test_by_chance(self):
        rng = seeded(150)
        met = {}
        for number in range(1500):
            bound = number % 3 != 0
            program = saying(rng, (lasting_program if number % 2 else random_program)(rng, rng.randint(1, 3), rng.randint(1, 2), bound))
            words = tuple([random_word(rng, program.letters, 3) for _ in range(program.rows)])
            found = said(program, words)
            self.assertIs(found, told(program, words))
            met[found] = met.get(found, 0) + 1
        self.assertGreater(min(met.values()), 30)
        self.assertEqual(len(met), 3)

    def test_errors(self):
        for words in [("a",), ("a", "a", "a"), ["a", "a"], ("a", "b"), ("a", None), ("a", 0), "aa", None, (), ("a", b""), (True, ""),
                      (("a", ""), ("a", "")), ("a", "-")]:
            with self.assertRaises(NoWords):
                said(YES, words)
        for thing in odd_things():
            with self.assertRaises(NoWords):
                said(YES, thing)
            if thing != "a" * 9999:
                with self.assertRaises(NoWords):
                    said(YES, ("a", thing))
        with self.assertRaises(NoWords):
            said(Program(1, 3, (0,), 1, (STOP,)), ("abcd",))
        self.assertIsNone(said(Program(1, 3, (0,), 1, (STOP,)), ("abc",)))


class AnsweringTest(unittest.TestCase):

    def right(self, question, most):
        program = answering(question)
        if len(finest(question)) < question.rows:
            self.assertIsNone(program)
            return None
        self.assertEqual((program.rows, program.letters, program.dealing), (question.rows, question.letters, (0,) * question.rows))
        self.assertIsNotNone(program.depth)
        for words in all_words(question.rows, question.letters, most):
            self.assertIs(said(program, words), answered(question, words))
        return program

    def test_by_hand(self):
        for question in (Q, EQUAL, LONGEST, APART, TWO):
            self.assertIsNone(answering(question))
        for question in (SAME, EVEN, FIRST):
            self.assertIsNotNone(self.right(question, 4))
        self.assertIsNotNone(self.right(EACH, 2))
        program = answering(agreeing(4, 2))
        for words in [("ab", "ab", "abb", "aba"), ("ab", "ab", "abb", "aa"), ("a", "a", "a", "a"), ("a", "a", "a", ""), ("", "", "", "")]:
            self.assertIs(said(program, words), answer(agreeing(4, 2), words))

    def test_by_chance(self):
        rng = seeded(151)
        met = 0
        for number in range(60):
            rows = rng.randint(2, 4)
            letters = rng.randint(1, 2) if rows < 4 else 1
            parts = [(row,) for row in range(rows)] if number % 3 else random_parts(rng, rows)
            question = sorted_question(rng, rows, letters, parts)
            met += self.right(question, (4 if letters == 1 else 3) if rows == 2 else 2) is not None
        self.assertGreater(met, 25)

    def test_small_questions(self):
        rng = seeded(152)
        for _ in range(150):
            self.right(random_question(rng, 2, 1, rng.randint(2, 4)), 7)


class WrongWordsTest(unittest.TestCase):

    def naive(self, question, program, most):
        for words in words_counted(question.rows, question.letters, most):
            if told(program, words) is not answered(question, words):
                return words
        return None

    def test_by_hand(self):
        self.assertEqual(wrong_words(Q, YES, 8), ("", "a"))
        self.assertEqual(wrong_words(Q, YES, 1), ("", "a"))
        self.assertIsNone(wrong_words(Q, YES, 0))
        self.assertEqual(wrong_words(SAME, EVENLY, 3), ("a", "") if answered(SAME, ("a", "")) else ("", ""))
        self.assertEqual(wrong_words(Q, EVENLY, 8), ("", "a"))
        silent = Program(2, 1, (0, 0), 1, (STOP,))
        self.assertEqual(wrong_words(Q, silent, 0), ("", ""))

    def test_programs_that_answer(self):
        for question in (SAME, EVEN, FIRST, EACH):
            self.assertIsNone(wrong_words(question, answering(question), 5))

    def test_words_with_just_so_many_letters(self):
        # Whether row 0 is not just aabba, or row 1 not just ba: the seven letters are the only wrong words of a program that says yes.
        goal = ("aabba", "ba")

        def step(state, reading):
            return state + 1 if state < 5 and reading == reading_at(goal, state) else 6

        question = question_of(2, 2, 0, step, lambda state: state != 5)
        yes = Program(2, 2, (0, 0), 1, YES.table)
        self.assertEqual(wrong_words(question, yes, 8), goal)
        self.assertEqual(wrong_words(question, yes, 7), goal)
        self.assertIsNone(wrong_words(question, yes, 6))

    def test_the_least_of_those_with_the_fewest_letters(self):
        # Wrong if there are three letters in all: ("", "aaa") is the least of them.
        question = question_of(2, 2, 0, lambda state, reading: min(4, state + len("".join(reading).replace("-", ""))), lambda state: state != 3)
        yes = Program(2, 2, (0, 0), 1, YES.table)
        self.assertEqual(wrong_words(question, yes, 8), ("", "aaa"))
        # Wrong if row 0 has a letter and row 1 has two.
        question = question_of(2, 1, (0, 0), lambda state, reading: (int(state[0] or reading[0] == "a"), min(2, state[1] + (reading[1] == "a"))),
                               lambda state: state != (1, 2))
        self.assertEqual(wrong_words(question, YES, 8), ("a", "aa"))

    def test_by_chance(self):
        rng = seeded(153)
        met = {}
        for number in range(80):
            rows = rng.randint(2, 3)
            letters = rng.randint(1, 2)
            question = random_question(rng, rows, letters, rng.randint(1, 3))
            program = saying(rng, random_program(rng, rows, letters))
            other = answering(question)
            if number % 2 and other is not None:
                table = list(other.table)
                at = rng.randrange(len(table))
                if table[at][0] in ("on", "begin"):
                    table[at] = table[at][:2] + (tuple([rng.choice(table[at][2]) for _ in table[at][2]]),)
                program = Program(rows, letters, other.dealing, other.depth, tuple(table))
            most = rng.randint(0, 4 if rows == 2 else 3)
            found = wrong_words(question, program, most)
            self.assertEqual(found, self.naive(question, program, most))
            met[found and sum([len(word) for word in found])] = True
        self.assertGreater(len(met), 3)

    def test_the_seventh_fact(self):
        rng = seeded(154)
        for question in (Q, EQUAL):
            for _ in range(40):
                program = lasting_program(rng, 2, question.letters, False)
                self.assertIsNotNone(wrong_words(question, program, 6))

    def test_errors(self):
        for pair in [(Q, Program(2, 2, (0, 0), 1, (STOP,))), (Q, Program(3, 1, (0, 0, 0), 1, (STOP,))), (Q, T), (P, P), (Q, Q), (None, YES),
                     (T, YES), (EQUAL, YES), (Q, None)]:
            for most in (8, -1, None):
                with self.assertRaises(OtherQuestion):
                    wrong_words(pair[0], pair[1], most)
        for thing in odd_things():
            if not isinstance(thing, Program):
                with self.assertRaises(OtherQuestion):
                    wrong_words(Q, thing, 8)
            with self.assertRaises(OtherQuestion):
                wrong_words(thing, YES, 8)
            with self.assertRaises(NoNumber):
                wrong_words(Q, YES, thing)
        for most in [-1, 9, 10 ** 39, True, False, None, "8", (8,)]:
            with self.assertRaises(NoNumber):
                wrong_words(Q, YES, most)
        # Programs of several hands may stand there too.
        self.assertEqual(wrong_words(Q, P, 3), ("", ""))
        self.assertIsInstance(Q, Question)


if __name__ == "__main__":
    unittest.main()
