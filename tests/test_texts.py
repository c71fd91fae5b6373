"""14.1 and 14.2: texts, written and read."""

import unittest

from tests.asking import Q, random_question
from tests.test_sorts import EQUAL4, EVEN
from tests.things import (P, T, U, lasting_program, nested, odd_things, random_contents, random_plan, random_program, seeded)
from wholewalks.compiling import compiled
from wholewalks.errors import BadPlan, BadProgram, BadQuestion, BadText, Idle, NoContent
from wholewalks.joining import behind, beside
from wholewalks.plans import Plan
from wholewalks.programs import Program
from wholewalks.reading import read_content, read_plan, read_program, read_question
from wholewalks.scripts import Script
from wholewalks.texts import content_text, plan_text, program_text, question_text

T_TEXT = "plan 2 1\nlook 0 1 2\nlook 1 0 2\nstop\n"
P_TEXT = "program 2 1 0,1 1\nbegin 0 1 4\nbegin 1 2 4\non 0 3 4\non 1 2 4\nstop\n"
Q_TEXT = "question 2 1\nyes 1 1 0\nno 1 1 1\n"
# Numbers that are none: signs, needless zeros, ten figures, other signs.
NO_NUMBERS = ["", "-1", "+1", "01", "00", "1000000000", "0000000001", "a", "1.0", "1,", "x1", "1x", "none", "\t1", "1\t", "None"]


class WritingTest(unittest.TestCase):

    def test_e13(self):
        self.assertEqual(plan_text(T), T_TEXT)

    def test_content_text(self):
        for content, text in [(("", ""), "-"), (("ab", ""), "ab"), (("", "c"), "(c)"), (("ab", "ca"), "ab(ca)"), (("a", "aa"), "a(aa)")]:
            self.assertEqual(content_text(content), text)
        for content in [("a",), ["a", ""], ("d", ""), ("a", None), None, "a", ("a", "", ""), (b"a", ""), ("a ", "")]:
            with self.assertRaises(NoContent):
                content_text(content)
        for thing in odd_things():
            if thing not in (("a", ""), ("", "")):
                with self.assertRaises(NoContent):
                    content_text(thing)

    def test_plans(self):
        self.assertEqual(plan_text(Plan(6, 3, (("say", "abcdefgh", 1), ("look", 5, (0, 1, 2, 2)), ("stop",)))),
                         "plan 6 3\nsay abcdefgh 1\nlook 5 0 1 2 2\nstop\n")
        self.assertEqual(plan_text(Plan(1, 1, (("stop",),))), "plan 1 1\nstop\n")

    def test_programs(self):
        self.assertEqual(program_text(P), P_TEXT)
        program = Program(3, 2, (0, 0, 0), None, (("leave", 0, 1), ("say", "x", 2), ("on", 0, (0, 1, 2)), ("begin", 2, (3, 3, 0))))
        self.assertEqual(program_text(program), "program 3 2 0,0,0 none\nleave 0 1\nsay x 2\non 0 0 1 2\nbegin 2 3 3 0\n")
        self.assertEqual(program_text(Program(1, 1, (0,), 60, (("stop",),))), "program 1 1 0 60\nstop\n")

    def test_questions(self):
        self.assertEqual(question_text(Q), Q_TEXT)
        self.assertEqual(len(question_text(EQUAL4).split("\n")), 4)
        self.assertEqual(len(question_text(EQUAL4).split("\n")[1].split(" ")), 81)


class ReadingBackTest(unittest.TestCase):

    def test_contents(self):
        rng = seeded(170)
        for _ in range(300):
            for content in random_contents(rng, 3, 3):
                self.assertEqual(read_content(content_text(content)), content)
        for text in ["-", "a", "abc", "(a)", "ab(ab)", "(abcabc)", "a" * 60 + "(" + "b" * 60 + ")"]:
            self.assertEqual(content_text(read_content(text)), text)

    def test_plans(self):
        rng = seeded(171)
        for _ in range(200):
            plan = random_plan(rng, None, None, rng.randint(1, 30))
            self.assertTrue(read_plan(plan_text(plan)) == plan)
        for plan in (T, U):
            self.assertTrue(read_plan(plan_text(plan)) == plan)

    def test_programs(self):
        rng = seeded(172)
        for number in range(200):
            program = (random_program if number % 2 else lasting_program)(rng, rng.randint(1, 3), rng.randint(1, 3), number % 3 > 0)
            self.assertTrue(read_program(program_text(program)) == program)
        script = Script(2, 2, (0, 1), ((("each", 0, 0, (("over", 1), ("if", 0, 1, (("say", "x"),), ()))),), (("over", 0),)))
        program = compiled(script)
        self.assertTrue(read_program(program_text(program)) == program)

    def test_questions(self):
        rng = seeded(173)
        for _ in range(60):
            question = random_question(rng, rng.randint(2, 4), None, rng.randint(1, 8))
            self.assertTrue(read_question(question_text(question)) == question)
        self.assertTrue(read_question(question_text(EVEN)) == EVEN)

    def test_large_plans_that_were_returned(self):
        plan = beside(beside(U, U), beside(U, U))
        self.assertEqual(plan_text(plan).split("\n")[0], "plan 8 2")
        with self.assertRaises(BadPlan) as caught:
            read_plan(plan_text(plan))
        self.assertEqual(caught.exception.part, "rows")
        plan = behind(behind(U, U), behind(behind(U, U), behind(U, behind(U, U))))
        self.assertEqual(len(plan_text(plan).split("\n")), 37)
        with self.assertRaises(BadPlan) as caught:
            read_plan(plan_text(plan))
        self.assertEqual(caught.exception.part, "table")


class BadTextsTest(unittest.TestCase):

    def bad(self, read, text, line):
        with self.assertRaises(BadText) as caught:
            read(text)
        self.assertEqual(caught.exception.line, line, text)

    def test_no_strings(self):
        for read in (read_content, read_plan, read_program, read_question):
            for thing in odd_things() + [T_TEXT.encode(), [T_TEXT], (T_TEXT,), None, nested("a", 40, tuple)]:
                if not isinstance(thing, str):
                    self.bad(read, thing, 0)

    def test_contents(self):
        for text in ["", " ", "a ", " a", "-a", "a-", "--", "()", "a()", "(", ")", "a(", "a)", "(a", "a)b", "a(b)c", "a(b)(c)", "((a))", "a(b))",
                     "a((b)", ")a(", "d", "a(d)", "d(a)", "A", "end", "a\n", "\n", "a(b)\n", "a b", "a( )", "-(a)", "(-)", "a|b", "\ta", "1",
                     "(a)(b)", "a(b c)", "a(bc", "(ab", "a(b]", "(ab|"]:
            self.bad(read_content, text, 1)

    def test_lacking_and_behind(self):
        for read, text in [(read_plan, T_TEXT), (read_program, P_TEXT), (read_question, Q_TEXT)]:
            lines = text.split("\n")[:-1]
            self.bad(read, "", 1)
            self.bad(read, "\n", 1)
            self.bad(read, lines[0], 1)
            self.bad(read, lines[0] + "\n", 2)
            self.bad(read, text[:-1], len(lines))
            self.bad(read, text + " ", len(lines) + 1)
            self.bad(read, text + lines[-1], len(lines) + 1)
            self.bad(read, text + "\n", len(lines) + 1)
            self.bad(read, "\n" + text, 1)
            self.bad(read, text + text, len(lines) + 1)
            self.bad(read, text + "x\nstop", len(lines) + 1)
            self.bad(read, lines[-1] + "\n" + text, 1)
            self.bad(read, lines[0] + "\n" + text, 2)
            self.bad(read, lines[0] + "\n\n" + lines[1] + "\n", 2)
            self.bad(read, lines[1] + "\n", 1)
            self.bad(read, lines[0] + lines[1] + "\n", 1)
            self.assertIsNotNone(read(text))

    def test_one_text_is_none_of_another_kind(self):
        for read, text in [(read_plan, P_TEXT), (read_plan, Q_TEXT), (read_program, T_TEXT), (read_program, Q_TEXT), (read_question, T_TEXT),
                           (read_question, P_TEXT)]:
            self.bad(read, text, 1)
        self.bad(read_plan, "plan 2 1\nbegin 0 0 0\n", 2)
        self.bad(read_plan, "plan 2 1\nleave 0 0\n", 2)
        self.bad(read_plan, "plan 2 1\nyes 0 0\n", 2)
        self.bad(read_program, "program 2 1 0,1 1\nlook 0 0 0\n", 2)
        self.bad(read_program, "program 2 1 0,1 1\nno 0 0 0\n", 2)
        self.bad(read_question, "question 2 1\nstop\n", 2)
        self.bad(read_question, "question 2 1\nsay yes 0\n", 2)

    def lines_tried(self, read, text, at, lines):
        """Holds that each of these, in the place of a line of a text, is told to be bad."""
        for line in lines:
            told = text.split("\n")
            told[at] = line
            self.bad(read, "\n".join(told), at + 1)
            told.append("x")
            self.bad(read, "\n".join(told[:at + 1]) + "\n" + "x\n", at + 1)

    def test_each_kind_of_line_of_a_plan(self):
        heads = ["plan", "plan 2", "plan 2 1 1", "Plan 2 1", "plan  2 1", " plan 2 1", "plan 2 1 ", "plan\t2 1", "2 1", "question 2 1"]
        heads += ["plan " + number + " 1" for number in NO_NUMBERS] + ["plan 2 " + number for number in NO_NUMBERS]
        self.lines_tried(read_plan, T_TEXT, 0, heads)
        looks = ["look", "look 0", "look  0 1 2", " look 0 1 2", "look 0 1 2 ", "look 0 1  2", "Look 0 1 2", "look0 1 2", "", " ", "plan 2 1",
                 "stop 0", "stop ", " stop", "stops", "say", "say x", "say x 1 2", "say x  1", "say X 1", "say x1 1", "say abcdefghi 1",
                 "say 1 x", "say  1", "on 0 1 2", "leave 0 1"]
        looks += ["look " + number + " 1 2" for number in NO_NUMBERS] + ["look 0 1 " + number for number in NO_NUMBERS]
        looks += ["look 0 " + number + " 2" for number in NO_NUMBERS] + ["say x " + number for number in NO_NUMBERS]
        for at in (1, 2, 3):
            self.lines_tried(read_plan, T_TEXT, at, looks)

    def test_each_kind_of_line_of_a_program(self):
        heads = ["program", "program 2 1 0,1", "program 2 1 0,1 1 1", "program 2 1 0 , 1 1", "program 2 1 0,1 None", "program 2 1 0,1 ",
                 "program 2 1 0, 1", "program 2 1 ,0 1", "program 2 1 0,,1 1", "program 2 1 none 1", "program none 1 0,1 1", "program 2 1 , 1",
                 " program 2 1 0,1 1", "program 2 1 0,1 1 ", "program 2 1 0,01 1", "program 2 1 0;1 1", "plan 2 1", "program 2 1  1", "plan 2 1 0,1 1", "Program 2 1 0,1 1"]
        heads += ["program 2 1 0,1 " + number for number in NO_NUMBERS if number != "none"]
        heads += ["program 2 1 0," + number + " 1" for number in NO_NUMBERS]
        heads += ["program " + number + " 1 0,1 1" for number in NO_NUMBERS] + ["program 2 " + number + " 0,1 1" for number in NO_NUMBERS]
        self.lines_tried(read_program, P_TEXT, 0, heads)
        lines = ["begin", "begin 0", "on", "on 0", "leave", "leave 0", "leave 0 1 2", "look 0 1 2", "stop 1", "say x", "say x 1 1", "Begin 0 1 4",
                 "begin 0 1 4 ", " on 0 1 4", "on 0  1 4", "", "program 2 1 0,1 1", "leave  0 1", "leave 0 x", "leave x 0", "say Yes 0"]
        for kind in ("begin", "on"):
            lines += [kind + " " + number + " 1 4" for number in NO_NUMBERS] + [kind + " 0 1 " + number for number in NO_NUMBERS]
        lines += ["leave " + number + " 1" for number in NO_NUMBERS] + ["leave 0 " + number for number in NO_NUMBERS]
        for at in (1, 3, 5):
            self.lines_tried(read_program, P_TEXT, at, lines)

    def test_each_kind_of_line_of_a_question(self):
        heads = ["question", "question 2", "question 2 1 1", "Question 2 1", "question  2 1", "plan 2 1", " question 2 1", "question 2 1 "]
        heads += ["question " + number + " 1" for number in NO_NUMBERS] + ["question 2 " + number for number in NO_NUMBERS]
        self.lines_tried(read_question, Q_TEXT, 0, heads)
        lines = ["yes", "no", "Yes 1 1 0", "yes  1 1 0", "yes 1 1 0 ", " no 1 1 0", "true 1 1 0", "", "question 2 1", "yes 1 1 0 x", "1 1 0", "yesno 0"]
        lines += ["no 1 " + number + " 0" for number in NO_NUMBERS] + ["yes " + number for number in NO_NUMBERS]
        for at in (1, 2):
            self.lines_tried(read_question, Q_TEXT, at, lines)

    def test_the_first_wrong_line(self):
        self.bad(read_plan, "plan 2 1\nstop\nx\ny\n", 3)
        self.bad(read_plan, "plan 2 1\nx\nstop", 2)
        self.bad(read_plan, "plan 9 9\nx\n", 2)
        self.bad(read_program, "program 9 9 9 99\nstop\nx\n", 3)
        self.bad(read_question, "question 9 9\nyes 9\nx", 3)


class BadThingsTest(unittest.TestCase):

    def test_plans(self):
        for text, part in [("plan 0 1\nstop\n", "rows"), ("plan 7 9\nstop\n", "rows"), ("plan 999999999 1\nstop\n", "rows"),
                           ("plan 1 0\nstop\n", "letters"), ("plan 1 4\nlook 9 9\n", "letters"), ("plan 1 1\nlook 1 0 0\n", "table"),
                           ("plan 1 1\nlook 0 0 1\n", "table"), ("plan 1 1\nlook 0 0\n", "table"), ("plan 1 1\nlook 0 0 0 0\n", "table"),
                           ("plan 1 1\nsay x 1\n", "table"), ("plan 1 1\n" + "stop\n" * 31, "table")]:
            with self.assertRaises(BadPlan) as caught:
                read_plan(text)
            self.assertEqual(caught.exception.part, part, text)
        with self.assertRaises(Idle) as caught:
            read_plan("plan 1 1\nsay x 1\nsay y 0\n")
        self.assertIn(caught.exception.ring, (((0, ()), (1, ())), ((1, ()), (0, ()))))
        self.assertEqual(len(read_plan("plan 1 1\n" + "stop\n" * 30).table), 30)

    def test_programs(self):
        for text, part in [("program 0 1 0 1\nstop\n", "rows"), ("program 7 9 0 1\nstop\n", "rows"), ("program 1 0 1 1\nstop\n", "letters"),
                           ("program 1 4 1 1\nstop\n", "letters"), ("program 1 1 1 0\nstop\n", "dealing"), ("program 2 1 0 1\nstop\n", "dealing"),
                           ("program 1 1 0,0 1\nstop\n", "dealing"), ("program 2 1 0,2 1\nstop\n", "dealing"), ("program 2 1 1,1 1\nstop\n", "dealing"),
                           ("program 1 1 0 0\non 9 9\n", "depth"), ("program 1 1 0 61\nstop\n", "depth"), ("program 2 1 0,1 none\nstop\n", "depth"),
                           ("program 1 1 0 1\non 1 0 0\n", "table"), ("program 1 1 0 1\nbegin 1 0 0\n", "table"), ("program 1 1 0 1\non 0 0\n", "table"),
                           ("program 1 1 0 1\nleave 0 1\n", "table"), ("program 1 1 0 1\nleave 1 0\n", "table"), ("program 1 1 0 1\nsay x 1\n", "table"),
                           ("program 1 1 0 1\n" + "stop\n" * 20001, "table")]:
            with self.assertRaises(BadProgram) as caught:
                read_program(text)
            self.assertEqual(caught.exception.part, part, text[:40])
        self.assertEqual(len(read_program("program 1 1 0 none\n" + "stop\n" * 20000).table), 20000)

    def test_questions(self):
        for text, part in [("question 1 1\nyes 0\n", "rows"), ("question 5 9\nyes 0\n", "rows"), ("question 2 0\nyes 0\n", "letters"),
                           ("question 2 3\nyes 0\n", "letters"), ("question 2 1\nyes 0 0\n", "table"), ("question 2 1\nyes 0 0 1\n", "table"),
                           ("question 2 1\nyes 0 0 0 0\n", "table"), ("question 2 1\n" + "no 0 0 0\n" * 9, "table")]:
            with self.assertRaises(BadQuestion) as caught:
                read_question(text)
            self.assertEqual(caught.exception.part, part, text)
        self.assertEqual(len(read_question("question 2 1\n" + "no 0 0 0\n" * 8).table), 8)


if __name__ == "__main__":
    unittest.main()
