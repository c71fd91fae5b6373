"""The whole document: its examples, its interface, and what it promises of every function."""

import inspect
import importlib
import unittest

from tests.test_sorts import EVEN
from tests.things import C, D, P, STOP, T, U, nested, odd_things
from wholewalks import errors
from wholewalks.alikes import alike, clean, parting
from wholewalks.answering import answering, said, wrong_words
from wholewalks.bench import Bench
from wholewalks.compiling import compiled
from wholewalks.contents import is_content, least_content, same_signs, sign
from wholewalks.depths import depths, followed
from wholewalks.desk import Desk
from wholewalks.hands import fewest_hands, is_need, least_dealing, need
from wholewalks.joining import behind, beside, renumbered
from wholewalks.late import is_late_paper, late_hands, late_paper
from wholewalks.leading import held, once_events, program_events
from wholewalks.making import made
from wholewalks.once import (broken_once, crosses, crossing, fewest_once, is_broken_once, is_crossing, least_once, made_once)
from wholewalks.partings import boxes, finest, is_answered, is_boxes
from wholewalks.pieces import is_free, is_stuck, pieces, stuck, web
from wholewalks.plans import Plan, phases, steps
from wholewalks.programs import Program
from wholewalks.questions import Question, answer
from wholewalks.reading import read_content, read_plan, read_program, read_question
from wholewalks.running import events, looked, whole_run
from wholewalks.runs import Run
from wholewalks.scripts import Script, script_events
from wholewalks.scripttexts import read_script, script_text
from wholewalks.sorters import is_sorter, sorted_by, sorter
from wholewalks.sorts import least_word, parted, some_sorts, sorts_many
from wholewalks.strangers import broken, is_broken
from wholewalks.texts import content_text, plan_text, program_text, question_text

Q = Question(2, 1, ((True, (1, 1, 0)), (False, (1, 1, 1))))
SCRIPT = Script(1, 1, (0,), ((("each", 0, 0, (("say", "x"),)),),))
STRANGER = Program(2, 1, (0, 0), 1, (("begin", 0, (1, 1)), ("on", 0, (1, 1))))
ERRORS = {"NoContent": (), "NoPlace": (), "BadPlan": ("part",), "Idle": ("ring",), "NoPhase": (), "NoContents": (), "NoNumber": (), "OtherPlan": (),
          "NoNumbers": (), "BadProgram": ("part",), "NoBound": (), "Over": (), "NoHand": (), "NothingDone": (), "BadScript": ("part",),
          "TooMany": ("most",), "BadText": ("line",), "NoDealing": (), "NotFree": (), "Free": (), "NoRow": (), "BadQuestion": ("part",),
          "NoWords": (), "NoLot": (), "NoSorter": (), "OtherQuestion": (), "NoStanding": (), "NoLine": (), "NoName": ("name",)}
# For each module its functions, with how many arguments they take, and its classes, with those of their methods.
FUNCTIONS = {
    "contents": {"is_content": 1, "same_signs": 2, "sign": 2, "least_content": 1},
    "plans": {"phases": 1, "steps": 2},
    "running": {"events": 3, "whole_run": 2, "looked": 2},
    "alikes": {"alike": 2, "parting": 2, "clean": 1},
    "joining": {"behind": 2, "beside": 2, "renumbered": 2},
    "leading": {"program_events": 3, "once_events": 3, "held": 4},
    "depths": {"depths": 2, "followed": 2},
    "scripts": {"script_events": 3},
    "compiling": {"compiled": 1},
    "scripttexts": {"script_text": 1, "read_script": 1},
    "pieces": {"pieces": 1, "web": 1, "is_free": 2, "is_stuck": 3, "stuck": 2},
    "hands": {"fewest_hands": 1, "least_dealing": 1, "need": 1, "is_need": 3},
    "making": {"made": 2},
    "strangers": {"broken": 2, "is_broken": 3},
    "once": {"crosses": 1, "crossing": 3, "is_crossing": 4, "is_broken_once": 3, "fewest_once": 1, "least_once": 1, "made_once": 2,
             "broken_once": 2},
    "late": {"late_hands": 1, "late_paper": 2, "is_late_paper": 3},
    "questions": {"answer": 2},
    "sorts": {"parted": 4, "sorts_many": 2, "some_sorts": 3, "least_word": 3},
    "sorters": {"sorted_by": 4, "sorter": 2, "is_sorter": 3},
    "partings": {"finest": 1, "boxes": 1, "is_answered": 2, "is_boxes": 2},
    "answering": {"said": 2, "answering": 1, "wrong_words": 3},
    "texts": {"content_text": 1, "plan_text": 1, "program_text": 1, "question_text": 1},
    "reading": {"read_content": 1, "read_plan": 1, "read_program": 1, "read_question": 1},
}
CLASSES = {
    "plans": {"Plan": {"__init__": 3, "__eq__": 1}},
    "programs": {"Program": {"__init__": 5, "__eq__": 1}},
    "runs": {"Run": {"__init__": 2, "deed": 0, "standing": 0, "walks": 1, "looked": 0, "deeds": 0, "back": 0, "copy": 0}},
    "scripts": {"Script": {"__init__": 4, "__eq__": 1}},
    "questions": {"Question": {"__init__": 3, "__eq__": 1}},
    "bench": {"Bench": {"__init__": 1, "turn": 3, "put": 1, "exchange": 2, "row": 0, "plan": 0, "web": 0, "fewest": 0, "crosses": 0, "dealt": 0,
                        "deal": 2, "joined": 0, "back": 0, "changes": 0, "trying": 1, "copy": 0}},
    "desk": {"Desk": {"__init__": 0, "tell": 1, "undoable": 0}},
}


class ExamplesTest(unittest.TestCase):

    def test_e01_to_e05(self):
        self.assertEqual(events(T, C, 9), [("look", 0, "a"), ("look", 1, "a"), ("look", 0, "a"), ("look", 1, "end"), ("stop",)])
        self.assertEqual(whole_run(T, D), ([], [("look", 0, "a"), ("look", 1, "a")]))
        self.assertEqual(looked(U, (("ab", "a"), ("", "ba"))), (None, 1))
        self.assertIs(alike(T, renumbered(T, (1, 0))), False)
        self.assertIs(clean(T) == T, True)
        self.assertIs(held(T, P, C, 99), None)
        self.assertEqual(followed(P, D), (0, 1))

    def test_e06_to_e10(self):
        self.assertEqual(web(T), ((0, 1),))
        self.assertEqual(web(U), ())
        self.assertEqual(fewest_hands(T), 2)
        self.assertEqual(fewest_hands(U), 1)
        self.assertEqual(crosses(U), ((0, 1),))
        self.assertEqual(fewest_once(U), 2)
        self.assertEqual(stuck(T, (0, 0))[:2], (0, 1))
        self.assertEqual(late_hands(T), 2)

    def test_e11_to_e14(self):
        self.assertIs(answer(Q, ("aa", "a")), False)
        self.assertIs(sorts_many(Q, (0,)), None)
        self.assertEqual(finest(Q), ((0, 1),))
        self.assertEqual(least_content(("ab", "bb")), ("a", "b"))
        self.assertEqual(plan_text(T), "plan 2 1\nlook 0 1 2\nlook 1 0 2\nstop\n")
        self.assertEqual(script_events(Script(1, 1, (0,), ((("each", 0, 0, (("say", "x"),)),),)), (("a", ""),), 9),
                         [("look", 0, "a"), ("say", "x"), ("look", 0, "end"), ("stop",)])

    def test_the_plans_of_the_examples(self):
        self.assertEqual((T.rows, T.letters, T.table), (2, 1, (("look", 0, (1, 2)), ("look", 1, (0, 2)), ("stop",))))
        self.assertEqual(U.table, (("look", 0, (0, 1, 1)), ("look", 1, (1, 2, 2)), ("look", 0, (2, 2, 3)), ("look", 1, (3, 3, 4)), ("stop",)))
        self.assertEqual((P.rows, P.letters, P.dealing, P.depth), (2, 1, (0, 1), 1))


class InterfaceTest(unittest.TestCase):

    def arguments(self, thing):
        parameters = list(inspect.signature(thing).parameters.values())
        for parameter in parameters:
            self.assertEqual((parameter.kind, parameter.default), (parameter.POSITIONAL_OR_KEYWORD, parameter.empty))
        return len(parameters)

    def test_functions(self):
        for name, functions in FUNCTIONS.items():
            module = importlib.import_module("wholewalks." + name)
            for word, many in functions.items():
                function = getattr(module, word)
                self.assertEqual(function.__module__, module.__name__, word)
                self.assertEqual(self.arguments(function), many, word)

    def test_classes(self):
        for name, classes in CLASSES.items():
            module = importlib.import_module("wholewalks." + name)
            for word, methods in classes.items():
                thing = getattr(module, word)
                self.assertEqual(thing.__module__, module.__name__)
                for method, many in methods.items():
                    self.assertIn(method, vars(thing), word)
                    self.assertEqual(self.arguments(vars(thing)[method]), many + 1, method)

    def test_errors(self):
        self.assertEqual(errors.WalkError.__bases__, (ValueError,))
        for name, fields in ERRORS.items():
            error = getattr(errors, name)
            self.assertEqual(error.__bases__, (errors.WalkError,))
            made_one = error(*[("x", field) for field in fields])
            for field in fields:
                self.assertEqual(getattr(made_one, field), ("x", field))
        known = [name for name, thing in vars(errors).items() if isinstance(thing, type)]
        self.assertEqual(sorted(known), sorted(list(ERRORS) + ["WalkError"]))


def answers():
    """Calls of all functions, as pairs of a function and right arguments."""
    paper = late_paper(T, 2)
    lot = sorter(EVEN, (0,))
    return [
        (is_content, ("a", "")), (sign, ("a", ""), 3), (same_signs, ("a", ""), ("", "a")), (least_content, ("a", "aa")), (phases, U),
        (steps, U, (0, ())), (events, T, C, 9), (whole_run, T, D), (looked, T, D), (alike, T, T), (parting, T, renumbered(T, (1, 0))), (clean, U),
        (behind, T, T), (beside, T, T), (renumbered, T, (1, 0)), (program_events, P, C, 9), (once_events, P, C, 9), (held, T, STRANGER, D, 9),
        (depths, P, C), (followed, P, D), (script_events, SCRIPT, (("a", ""),), 9), (compiled, SCRIPT), (script_text, SCRIPT),
        (read_script, script_text(SCRIPT)), (pieces, U), (web, T), (is_free, T, (0, 1)), (stuck, T, (0, 0)), (is_stuck, T, (0, 0), stuck(T, (0, 0))),
        (fewest_hands, T), (least_dealing, T), (need, T), (is_need, T, 2, need(T)), (made, T, (0, 1)), (broken, T, STRANGER),
        (is_broken, T, STRANGER, broken(T, STRANGER)), (crosses, U), (crossing, U, 0, 1), (is_crossing, U, 0, 1, crossing(U, 0, 1)),
        (fewest_once, U), (least_once, U), (made_once, U, (0, 1)), (broken_once, T, STRANGER), (is_broken_once, T, STRANGER, broken_once(T, STRANGER)),
        (late_hands, T), (late_paper, T, 1), (is_late_paper, T, 2, paper), (answer, Q, ("aa", "a")), (parted, Q, (0,), ("a",), ("aa",)),
        (sorts_many, EVEN, (0,)), (some_sorts, Q, (0,), 9), (least_word, EVEN, (0,), ("abb",)), (sorted_by, EVEN, (0,), lot, ("abb",)),
        (sorter, EVEN, (0,)), (is_sorter, EVEN, (0,), lot), (finest, EVEN), (boxes, EVEN), (is_answered, EVEN, ((0,), (1,))),
        (is_boxes, EVEN, boxes(EVEN)), (said, P, ("a", "a")), (answering, EVEN), (wrong_words, Q, P, 3), (content_text, ("a", "b")), (plan_text, T),
        (program_text, P), (question_text, Q), (read_content, "a(b)"), (read_plan, plan_text(T)), (read_program, program_text(P)),
        (read_question, question_text(Q)),
    ]


def spoil(thing):
    """Changes all lists and dicts within a thing, and tells how many there were."""
    found = 0
    if isinstance(thing, (list, tuple)):
        found += sum([spoil(one) for one in thing])
    if isinstance(thing, dict):
        found += sum([spoil(one) for one in thing.values()])
    if isinstance(thing, list):
        thing.append("spoilt")
        return found + 1
    if isinstance(thing, dict):
        thing["spoilt"] = True
        return found + 1
    return found


class GeneralTest(unittest.TestCase):

    def test_each_function_is_called_here(self):
        called = {call[0].__name__ for call in answers()}
        self.assertEqual(called, {word for functions in FUNCTIONS.values() for word in functions})

    def test_equal_calls_give_equal_answers_and_lists_are_new(self):
        for one, other in zip(answers(), answers()):
            before = repr_of(one[1:])
            first = one[0](*one[1:])
            second = other[0](*other[1:])
            again = one[0](*one[1:])
            self.assertEqual(first, second, one[0])
            self.assertEqual(repr_of(one[1:]), before)
            if spoil(first):
                self.assertEqual(again, second)
                self.assertEqual(one[0](*one[1:]), second)

    def test_kinds_of_what_is_returned(self):
        kinds = {}
        for call in answers():
            kinds.setdefault(type(call[0](*call[1:])).__name__, []).append(call[0].__name__)
        flags = "is_content same_signs alike is_free is_stuck is_need is_broken is_crossing is_broken_once is_late_paper answer is_sorter is_answered is_boxes"
        self.assertEqual(sorted(kinds.pop("bool")), sorted(flags.split()))
        self.assertEqual(sorted(kinds.pop("int")), sorted("fewest_hands fewest_once late_hands sorts_many sorted_by".split()))
        self.assertEqual(sorted(kinds.pop("str")), sorted("sign script_text content_text plan_text program_text question_text".split()))
        self.assertEqual(sorted(kinds.pop("list")), sorted("phases steps events program_events once_events script_events pieces some_sorts".split()))
        self.assertEqual(sorted(kinds.pop("Plan")), sorted("clean behind beside renumbered read_plan".split()))
        self.assertEqual(sorted(kinds.pop("Program")), sorted("compiled made made_once answering read_program".split()))
        self.assertEqual((kinds.pop("Script"), kinds.pop("Question"), kinds.pop("NoneType")), (["read_script"], ["read_question"], ["said"]))
        self.assertEqual(list(kinds), ["tuple"])

    def test_equal_to_nothing_of_another_class_or_kind(self):
        objects = [T, P, Q, SCRIPT, Run(P, C), Bench(T), Desk(), Program(1, 1, (0,), 1, (STOP,)), Plan(1, 1, (STOP,)), Script(1, 1, (0,), ((),))]
        for thing in objects:
            self.assertTrue(thing == thing)
            for other in objects + odd_things():
                if type(other) is not type(thing):
                    self.assertFalse(thing == other)
                    self.assertTrue(thing != other)

        class MorePlan(Plan):
            pass

        self.assertFalse(T == MorePlan(2, 1, T.table))

    def test_nothing_nested_deep_is_too_deep(self):
        for thing in (nested("a", 40, tuple), nested("a", 40, list), nested({"a": 1}, 40, tuple), nested(T, 40, tuple)):
            for judge in (is_content, lambda some: is_free(T, some), lambda some: is_stuck(T, (0, 0), some), lambda some: is_need(T, 2, some),
                          lambda some: is_broken(T, P, some), lambda some: is_crossing(T, 0, 1, some), lambda some: is_broken_once(T, P, some),
                          lambda some: is_late_paper(T, 2, some), lambda some: is_sorter(Q, (0,), some), lambda some: is_answered(Q, some),
                          lambda some: is_boxes(Q, some)):
                self.assertIs(judge(thing), False)
        tree = ("all", ())
        for _ in range(39):
            tree = ("case", (0,), (1,), tree, tree)
        self.assertIs(is_need(T, 2, tree), False)

    def test_a_plan_larger_than_may_be_constructed(self):
        plan = beside(beside(U, U), beside(behind(U, behind(U, U)), renumbered(U, (1, 0))))
        self.assertEqual((plan.rows, len(plan.table)), (8, 30))
        large = behind(plan, plan)
        self.assertEqual((large.rows, len(large.table)), (8, 60))
        many = (("abab", ""), ("", "ab"), ("b", "a"), ("", ""), ("ab", ""), ("b", ""), ("", "b"), ("aab", ""))
        self.assertEqual(events(large, many, 9), events(large, many, 9999)[:9])
        self.assertTrue(alike(large, clean(large)))
        self.assertTrue(clean(large) == clean(clean(large)))
        self.assertIsNone(parting(large, renumbered(renumbered(large, (7, 6, 5, 4, 3, 2, 1, 0)), (7, 6, 5, 4, 3, 2, 1, 0))))
        # Behind the plan all rows have ended, so it does nothing more.
        self.assertIs(alike(large, plan), True)
        self.assertEqual(phases(large)[0], (0, ()))
        self.assertEqual(len(steps(large, (0, ()))), 3)
        self.assertEqual(web(large), ())
        dealing = least_dealing(large)
        self.assertEqual((fewest_hands(large), dealing, late_hands(large)), (1, (0,) * 8, 1))
        self.assertIs(is_need(large, 1, need(large)), True)
        program = made(plan, (0, 1, 2, 3, 4, 5, 6, 7))
        self.assertIsNone(held(plan, program, many, 9999))
        self.assertTrue(read_plan(plan_text(U)) == U)
        with self.assertRaises(errors.BadPlan):
            read_plan(plan_text(large))
        self.assertEqual((Bench(large).fewest(), Bench(large).web(), Bench(large).crosses()), (1, (), crosses(large)))
        self.assertEqual(late_paper(large, 1)[0], "dealt")
        self.assertEqual(len(pieces(large)) > 0, True)
        self.assertIs(is_crossing(large, 0, 1, crossing(large, 0, 1)), True)
        self.assertEqual(fewest_once(large), max(least_once(large)) + 1)


def repr_of(things):
    """What tells things apart by value."""
    return [(thing.rows, thing.letters, thing.table) if isinstance(thing, (Plan, Program, Question)) else repr(thing)
            if not isinstance(thing, Script) else script_text(thing) for thing in things]


if __name__ == "__main__":
    unittest.main()
