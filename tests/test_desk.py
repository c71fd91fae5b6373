"""15.1 and 15.2: the desk."""

import unittest

from tests import naive
from tests.things import STOP, T, U, nested, odd_things, random_contents, random_plan, seeded
from wholewalks.desk import Desk
from wholewalks.errors import (BadPlan, BadText, Idle, NoContents, NoLine, NoName, NoNumber, NothingDone, OtherPlan, WalkError)
from wholewalks.hands import fewest_hands
from wholewalks.late import late_hands
from wholewalks.once import fewest_once
from wholewalks.pieces import is_free
from wholewalks.plans import Plan
from wholewalks.texts import content_text, plan_text

T_LINE = "plan t plan 2 1|look 0 1 2|look 1 0 2|stop|"
WORDY = Plan(1, 2, (("say", "hello", 1), ("look", 0, (1, 0, 2)), ("say", "stop", 3), STOP))
KINDS = ("names", "undo", "drop", "web", "crosses", "fewest", "once", "late", "free", "alike", "run", "plan")


def line_of(name, plan):
    """The line that keeps a plan under a name."""
    return "plan " + name + " " + plan_text(plan).replace("\n", "|")


def desk_with(*plans):
    """A desk with plans, kept under a, b and so on."""
    desk = Desk()
    for name, plan in zip("abcdef", plans):
        desk.tell(line_of(name, plan))
    return desk


class Case(unittest.TestCase):

    def raises(self, error, desk, line):
        before = (desk.tell("names"), desk.undoable())
        with self.assertRaises(error) as caught:
            desk.tell(line)
        self.assertEqual((desk.tell("names"), desk.undoable()), before)
        return caught.exception


class LinesTest(Case):

    def test_by_hand(self):
        desk = Desk()
        self.assertEqual(desk.tell("names"), "none")
        self.assertEqual(desk.tell(T_LINE), "ok")
        self.assertEqual(desk.tell("names"), "t")
        self.assertEqual(desk.tell("web t"), "0-1")
        self.assertEqual(desk.tell("crosses t"), "0-1")
        self.assertEqual([desk.tell(kind + " t") for kind in ("fewest", "once", "late")], ["2", "2", "2"])
        self.assertEqual(desk.tell("free t 0,1"), "yes")
        self.assertEqual(desk.tell("free t 1,0"), "yes")
        self.assertEqual(desk.tell("free t 0,0"), "no")
        self.assertEqual(desk.tell("run t 9 aa a"), "0:a 1:a 0:a 1:end stop")
        self.assertEqual(desk.tell("run t 3 aa a"), "0:a 1:a 0:a")
        self.assertEqual(desk.tell("run t 4 (a) a(aa)"), "0:a 1:a 0:a 1:a")
        self.assertEqual(desk.tell("run t 9 - (a)"), "0:end stop")
        self.assertEqual(desk.tell("run t 0 aa a"), "none")
        self.assertEqual(desk.tell("alike t t"), "yes")
        self.assertEqual(desk.tell("drop t"), "ok")
        self.assertEqual(desk.tell("names"), "none")
        self.assertEqual(desk.undoable(), 2)

    def test_what_is_not_joined_or_free(self):
        desk = desk_with(U, WORDY, T)
        self.assertEqual(desk.tell("web a"), "none")
        self.assertEqual(desk.tell("crosses a"), "0-1")
        self.assertEqual([desk.tell(kind + " a") for kind in ("fewest", "once", "late")], ["1", "2", "1"])
        for dealing in ("0", "0,0,0", "1,1", "0,2", "999999999,0", "5,5", "1,2"):
            self.assertEqual(desk.tell("free a " + dealing), "no")
        self.assertEqual(desk.tell("free a 0,0"), "yes")
        self.assertEqual(desk.tell("crosses b"), "none")
        self.assertEqual(desk.tell("run b 99 ab"), "hello! 0:a 0:b hello! 0:end stop! stop")
        self.assertEqual(desk.tell("run b 1 ab"), "hello!")

    def test_many_pairs(self):
        plan = Plan(3, 1, (("look", 0, (1, 3)), ("look", 1, (2, 3)), ("look", 2, (0, 3)), STOP))
        desk = desk_with(plan)
        self.assertEqual(desk.tell("web a"), "0-1 0-2 1-2")
        self.assertEqual(desk.tell("crosses a"), "0-1 0-2 1-2")
        self.assertEqual(desk.tell("fewest a"), "3")

    def test_alike(self):
        same = Plan(2, 1, (("look", 0, (1, 3)), ("look", 1, (2, 3)), ("look", 0, (1, 3)), STOP))
        other = Plan(2, 1, (("look", 1, (1, 2)), ("look", 0, (0, 2)), STOP))
        desk = desk_with(T, same, other, U)
        self.assertEqual([desk.tell("alike a b"), desk.tell("alike a c"), desk.tell("alike c c")], ["yes", "no", "yes"])
        self.raises(OtherPlan, desk, "alike a d")

    def test_names(self):
        desk = Desk()
        for name in ("zebra", "b", "plan", "abcdefgh", "a", "undo"):
            self.assertEqual(desk.tell(line_of(name, T)), "ok")
        self.assertEqual(desk.tell("names"), "a abcdefgh b plan undo zebra")
        self.assertEqual(desk.tell("web plan"), "0-1")
        self.assertEqual(desk.tell("drop undo"), "ok")
        self.assertEqual(desk.tell("names"), "a abcdefgh b plan zebra")

    def test_taken_back(self):
        desk = desk_with(T, U)
        desk.tell(line_of("a", WORDY))
        self.assertEqual((desk.tell("fewest a"), desk.undoable()), ("1", 3))
        desk.tell("drop a")
        desk.tell(line_of("c", T))
        desk.tell("drop b")
        self.assertEqual((desk.tell("names"), desk.undoable()), ("c", 6))
        self.assertEqual(desk.tell("undo"), "ok")
        self.assertEqual(desk.tell("names"), "b c")
        self.assertEqual(desk.tell("crosses b"), "0-1")
        desk.tell("undo")
        desk.tell("undo")
        self.assertEqual((desk.tell("names"), desk.tell("run a 1 -")), ("a b", "hello!"))
        desk.tell("undo")
        self.assertEqual((desk.tell("names"), desk.tell("fewest a"), desk.undoable()), ("a b", "2", 2))
        desk.tell(line_of("b", WORDY))
        self.assertEqual((desk.tell("fewest b"), desk.undoable()), ("1", 3))
        for left in (2, 1, 0):
            self.assertEqual((desk.tell("undo"), desk.undoable()), ("ok", left))
        self.assertEqual(desk.tell("names"), "none")
        self.raises(NothingDone, desk, "undo")

    def test_lines_that_change_nothing_are_not_taken_back(self):
        desk = desk_with(T)
        for line in ("names", "web a", "crosses a", "fewest a", "once a", "late a", "free a 0,1", "alike a a", "run a 3 a a"):
            desk.tell(line)
        self.assertEqual(desk.undoable(), 1)
        desk.tell("undo")
        self.raises(NothingDone, desk, "undo")

    def test_desks_are_apart(self):
        one, other = Desk(), Desk()
        one.tell(T_LINE)
        self.assertEqual((other.tell("names"), other.undoable()), ("none", 0))
        self.assertFalse(one == other)

    def test_by_chance(self):
        rng = seeded(180)
        for _ in range(80):
            plan = random_plan(rng)
            other = random_plan(rng, plan.rows, plan.letters)
            desk = desk_with(plan, other)
            for kind, pairs in [("web", naive.joined_rows(plan)), ("crosses", naive.crossed_rows(plan))]:
                self.assertEqual(desk.tell(kind + " a"), " ".join([f"{r}-{s}" for r, s in pairs]) or "none")
            self.assertEqual([desk.tell(kind + " a") for kind in ("fewest", "once", "late")],
                             [str(fewest_hands(plan)), str(fewest_once(plan)), str(late_hands(plan))])
            for dealing in naive.dealings(plan.rows):
                self.assertEqual(desk.tell("free a " + ",".join(map(str, dealing))), "yes" if is_free(plan, dealing) else "no")
            contents = random_contents(rng, plan.rows, plan.letters)
            many = rng.randint(0, 12)
            found = []
            for event in naive.run_events(plan, contents, many):
                found.append(f"{event[1]}:{event[2]}" if event[0] == "look" else f"{event[1]}!" if event[0] == "say" else "stop")
            self.assertEqual(desk.tell(f"run a {many} " + " ".join([content_text(content) for content in contents])),
                             " ".join(found) or "none")
            self.assertEqual(desk.tell("alike b a"), desk.tell("alike a b"))


class ErrorsTest(Case):

    def test_no_line(self):
        desk = desk_with(T, U)
        for line in odd_things() + [b"names", ["names"], ("names",), None, nested("names", 40, tuple)]:
            self.raises(NoLine, desk, line)
        for line in ["", " ", "name", "Names", "names ", " names", "names a", "names  ", "undo ", "undo a", "undo  ", "names\n", "undo\n", "x", "x a",
                     "\n", "names\nnames", "web a\n", "\tnames", "plan", "plan a", "plan a ", "plan  a x", "plan ab1 x", "plan A x",
                     "plan abcdefghi " + plan_text(T).replace("\n", "|"), " " + T_LINE, T_LINE + "\n", T_LINE.replace("|", "\n"), "plan  "]:
            self.raises(NoLine, desk, line)
        for kind in ("drop", "web", "crosses", "fewest", "once", "late"):
            for rest in ["", " ", "  a", " a ", " a a", " A", " a1", " abcdefghi", "a", " -", " 0", " a\n", "\ta", " a\t"]:
                self.raises(NoLine, desk, kind + rest)
                if rest != "a":
                    self.raises(NoLine, desk, kind.upper() + rest)
        for rest in ["", " ", " a", " a ", " a b c", "  a b", " a  b", " a b ", " A b", " a B", " a abcdefghi", " a 0", "a b"]:
            self.raises(NoLine, desk, "alike" + rest)
        for rest in ["", " a", " a ", " a 0,", " a ,0", " a 0,,1", " a 0, 1", " a 0 1", " a 0,1 ", "  a 0,1", " a  0,1", " a 0,-1", " a 0,+1", " a 0,01",
                     " a 0,1000000000", " a 0,x", " 0,1", " A 0,1", " a none", " a 0;1", " abcdefghi 0,1", " a 00,1"]:
            self.raises(NoLine, desk, "free" + rest)
        for rest in ["", " a", " a 5", " a 5 ", " a a a", " a 5 a a ", " a 5  a a", " a  5 a a", "  a 5 a a", " a -5 a a", " a 05 a a", " a +5 a a",
                     " a 1000000000 a a", " a x a a", " a 5 a d", " a 5 a ()", " a 5 a() a", " a 5 a -a", " a 5 a (", " A 5 a a", " 5 a a",
                     " abcdefghi 5 a a", " a 5 a (a) b)", " a 5 a,a"]:
            self.raises(NoLine, desk, "run" + rest)

    def test_plans_that_cannot_be_read(self):
        desk = desk_with(T)
        for text, line in [("x", 1), ("|", 1), (" plan 2 1|stop|", 1), ("plan 2 1", 1), ("plan 2 1|", 2), ("plan 2 1|stop", 2), ("plan 2 1|stop||", 3),
                           ("plan 2 1|stop| ", 3), ("plan 2 1|stop |", 2), ("plan 2 1|look  0 0 0|stop|", 2), ("plan 2 1|stop|plan 2 1|", 3), ("\t", 1),
                           (" ", 1), ("  ", 1), ("plan 01 1|stop|", 1), ("plan 9 9|x|", 2)]:
            self.assertEqual(self.raises(BadText, desk, "plan a " + text).line, line, text)
            self.assertEqual(self.raises(BadText, desk, "plan new " + text).line, line, text)
        self.assertEqual(self.raises(BadPlan, desk, "plan a plan 7 1|stop|").part, "rows")
        self.assertEqual(self.raises(BadPlan, desk, "plan a plan 1 4|stop|").part, "letters")
        self.assertEqual(self.raises(BadPlan, desk, "plan new plan 1 1|look 0 0|").part, "table")
        self.assertEqual(self.raises(Idle, desk, "plan a plan 1 1|say x 0|").ring, ((0, ()),))
        self.assertEqual(desk.tell("web a"), "0-1")

    def test_no_name(self):
        desk = desk_with(T, U)
        for line in ["drop c", "web c", "crosses c", "fewest c", "once c", "late c", "free c 0,1", "free c 9", "run c 5 a a", "run c 99999 a"]:
            self.assertEqual(self.raises(NoName, desk, line).name, "c")
        for line, name in [("alike c a", "c"), ("alike a c", "c"), ("alike d c", "d"), ("alike plan a", "plan")]:
            self.assertEqual(self.raises(NoName, desk, line).name, name)
        desk.tell("drop a")
        self.assertEqual(self.raises(NoName, desk, "drop a").name, "a")
        self.assertEqual(desk.tell("undo"), "ok")
        self.assertEqual(desk.tell("web a"), "0-1")

    def test_what_the_functions_raise(self):
        desk = desk_with(T, U)
        for line in ["run a 5 a", "run a 5 a a a", "run a 5 b a", "run a 10001 c a", "run a 5 (b) a"]:
            self.raises(NoContents, desk, line)
        self.raises(NoNumber, desk, "run a 10001 a a")
        self.raises(NoNumber, desk, "run a 999999999 a a")
        self.assertEqual(len(desk.tell("run a 10000 (a) (a)").split(" ")), 10000)
        self.raises(OtherPlan, desk, "alike a b")

    def test_nothing_changes_by_chance(self):
        rng = seeded(181)
        words = list(KINDS) + ["a", "b", "c", "abcdefghi", "0", "5", "0,1", "aa", "(a)", "-", "plan 2 1|stop|", "plan 2 1|look 0 0 0|", "x", "", "|"]
        desk = desk_with(T, U)
        past = []
        done = 0
        for _ in range(20000):
            line = " ".join([rng.choice(KINDS)] + [rng.choice(words) for _ in range(rng.randint(0, 3))])
            before = (desk.tell("names"), desk.undoable())
            try:
                told = desk.tell(line)
            except WalkError:
                self.assertEqual((desk.tell("names"), desk.undoable()), before)
                continue
            done += 1
            self.assertIs(type(told), str)
            if line == "undo":
                self.assertEqual(desk.undoable(), before[1] - 1)
                if past:
                    self.assertEqual(desk.tell("names"), past.pop())
            elif line.split(" ")[0] in ("plan", "drop"):
                past.append(before[0])
                self.assertEqual(desk.undoable(), before[1] + 1)
            else:
                self.assertEqual((desk.tell("names"), desk.undoable()), before)
        self.assertGreater(done, 300)


if __name__ == "__main__":
    unittest.main()
