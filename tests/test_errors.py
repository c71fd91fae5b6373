"""0.3: the error classes."""

import copy
import inspect
import unittest

from tests.things import odd_things
from wholewalks import errors

PLAIN = ("NoContent NoPlace NoPhase NoContents NoNumber OtherPlan NoNumbers NoBound Over NoHand NothingDone NoDealing "
         "NotFree Free NoRow NoWords NoLot NoSorter OtherQuestion NoStanding NoLine").split()
FIELDS = {"BadPlan": "part", "Idle": "ring", "BadProgram": "part", "BadScript": "part", "TooMany": "most",
          "BadText": "line", "BadQuestion": "part", "NoName": "name"}


class ErrorsTest(unittest.TestCase):

    def test_there_are_29_and_no_others(self):
        self.assertEqual(len(PLAIN) + len(FIELDS), 29)
        found = [name for name, thing in vars(errors).items() if inspect.isclass(thing)]
        self.assertEqual(sorted(found), sorted(PLAIN + list(FIELDS) + ["WalkError"]))

    def test_bases(self):
        self.assertEqual(errors.WalkError.__bases__, (ValueError,))
        for name in PLAIN + list(FIELDS):
            self.assertEqual(getattr(errors, name).__bases__, (errors.WalkError,), name)
            self.assertEqual(getattr(errors, name).__module__, "wholewalks.errors")

    def test_errors_without_fields(self):
        for name in PLAIN:
            error = getattr(errors, name)()
            self.assertEqual(vars(error), {}, name)
            with self.assertRaises(TypeError):
                getattr(errors, name)(1)

    def test_errors_keep_what_is_passed(self):
        for name, field in FIELDS.items():
            for thing in odd_things() + [1.5, {1, 2}, 2j, "rows", 3, ((0, ()),)]:
                error = getattr(errors, name)(thing)
                self.assertEqual(list(vars(error)), [field])
                self.assertIs(getattr(error, field), thing)
            with self.assertRaises(TypeError):
                getattr(errors, name)()
            with self.assertRaises(TypeError):
                getattr(errors, name)(1, 2)

    def test_errors_can_be_caught_and_copied(self):
        for name, field in FIELDS.items():
            with self.assertRaises(errors.WalkError) as caught:
                raise getattr(errors, name)("x")
            self.assertEqual(getattr(copy.copy(caught.exception), field), "x")
        for name in PLAIN:
            with self.assertRaises(ValueError):
                raise copy.copy(getattr(errors, name)())

    def test_errors_are_equal_to_nothing_else(self):
        self.assertNotEqual(errors.BadPlan("rows"), errors.BadProgram("rows"))
        self.assertNotEqual(errors.BadPlan("rows"), "rows")
        self.assertNotEqual(errors.NoContent(), None)
