"""4.1: programs."""

import unittest

from tests.things import P, STOP, T, odd_things
from wholewalks.errors import BadProgram
from wholewalks.programs import Program

ONE = (STOP,)


class ProgramTest(unittest.TestCase):

    def bad(self, part, *parts):
        with self.assertRaises(BadProgram) as caught:
            Program(*parts)
        self.assertEqual(caught.exception.part, part)

    def test_attributes(self):
        table = (("begin", 1, (1, 2)), ("on", 1, (1, 2)), ("leave", 0, 3), ("say", "abcdefgh", 4), STOP)
        program = Program(2, 1, (0, 1), 60, table)
        self.assertEqual((program.rows, program.letters, program.dealing, program.depth, program.table),
                         (2, 1, (0, 1), 60, table))
        self.assertEqual(sorted(vars(program)), ["dealing", "depth", "letters", "rows", "table"])

    def test_least_and_greatest(self):
        self.assertIsNone(Program(1, 1, (0,), None, ONE).depth)
        self.assertIsNone(Program(6, 3, (0,) * 6, None, ONE).depth)
        self.assertEqual(Program(6, 3, (5, 4, 3, 2, 1, 0), 1, ONE).depth, 1)
        self.assertEqual(len(Program(1, 1, (0,), 60, ONE * 20000).table), 20000)
        long = tuple([("on", 0, (at, 19999)) for at in range(20000)])
        self.assertEqual(Program(1, 1, (0,), 60, long).table, long)

    def test_rows(self):
        for rows in [0, 7, -1, True, None, "1", (1,), 10 ** 39] + odd_things():
            self.bad("rows", rows, 1, (0,), 1, ONE)

    def test_letters(self):
        for letters in [0, 4, -1, True, None, "a", (1,), 10 ** 39] + odd_things():
            self.bad("letters", 1, letters, (0,), 1, ONE)

    def test_dealings(self):
        for dealing in [(0, 1, 2), (2, 1, 0), (0, 0, 0), (1, 0, 1)]:
            self.assertEqual(Program(3, 1, dealing, 1, ONE).dealing, dealing)
        for dealing in [(0, 1), (0, 1, 2, 3), (0, 2, 0), (1, 1, 1), (1, 2, 2), (0, 0, -1), (0, 0, 3), (0, 1, True),
                        (False, 1, 2), [0, 1, 2], (0, 1, "2"), (0, 1, None), (0, 1, (2,)), 0, None, "000", (),
                        (0, 1, 10 ** 39), (10 ** 39, 10 ** 39 - 1, 10 ** 39 - 2), {0: 0, 1: 1, 2: 2}] + odd_things():
            self.bad("dealing", 3, 1, dealing, 1, ONE)

    def test_depths(self):
        for depth in [0, 61, -1, True, False, "1", (1,), [1], 10 ** 39, {}] + odd_things():
            if depth is not None:
                self.bad("depth", 1, 1, (0,), depth, ONE)
        self.bad("depth", 2, 1, (0, 1), None, ONE)
        self.bad("depth", 3, 1, (0, 1, 0), None, ONE)

    def test_tables(self):
        for table in [(), [STOP], STOP, None, "stop", {0: STOP}, ONE * 20001, (None,)] + odd_things():
            self.bad("table", 1, 1, (0,), 1, table)

    def test_items(self):
        wrong = [["stop"], ("stop", 0), "stop", (), None, 0, ("halt",), (None,), ("look", 0, (0, 0)),
                 ("begin", 3, (0, 0)), ("begin", -1, (0, 0)), ("begin", True, (0, 0)), ("begin", None, (0, 0)),
                 ("begin", 0, [0, 0]), ("begin", 0, (0,)), ("begin", 0, (0, 0, 0)), ("begin", 0, (0, 2)),
                 ("begin", 0, (0, -1)), ("begin", 0, (True, 0)), ("begin", 0, 0), ("begin", 0), ["begin", 0, (0, 0)],
                 ("begin", 0, (0, 0), 0), ("begin", 10 ** 39, (0, 0)), ("begin", 0, (0, 10 ** 39)),
                 ("on", 2, (0, 0)), ("on", -1, (0, 0)), ("on", False, (0, 0)), ("on", 0, [0, 0]), ("on", 0, (0,)),
                 ("on", 0, (0, 2)), ("on", 0, (0, False)), ("on", 0), ["on", 0, (0, 0)], ("on", "0", (0, 0)),
                 ("leave", 2, 0), ("leave", -1, 0), ("leave", True, 0), ("leave", 0, 2), ("leave", 0, -1),
                 ("leave", 0, True), ("leave", 0, (0,)), ("leave", 0, None), ("leave", 0), ["leave", 0, 0],
                 ("leave", 0, 0, 0), ("say", "", 0), ("say", "abcdefghi", 0), ("say", "A", 0), ("say", "a", 2),
                 ("say", "a", True), ("say", "a"), ["say", "a", 0], (b"stop",)]
        for item in wrong + odd_things():
            self.bad("table", 3, 1, (0, 1, 0), 1, (item, STOP))
            self.bad("table", 3, 1, (0, 1, 0), 1, (STOP, item))
        # Row 2 and hand 1 are there.
        Program(3, 1, (0, 1, 0), 1, (("begin", 2, (0, 1)), ("on", 1, (0, 1))))

    def test_a_round_of_says_is_let(self):
        Program(1, 1, (0,), 1, (("say", "x", 0),))

    def test_the_first_part_that_is_wrong(self):
        self.bad("rows", 0, 0, None, 0, None)
        self.bad("letters", 1, 0, None, 0, None)
        self.bad("dealing", 1, 1, (1,), 0, None)
        self.bad("dealing", 2, 1, (0,), None, None)
        self.bad("depth", 1, 1, (0,), 0, None)
        self.bad("depth", 2, 1, (0, 1), None, None)
        self.bad("table", 1, 1, (0,), 1, None)

    def test_equal(self):
        self.assertTrue(P == Program(2, 1, (0, 1), 1, P.table))
        self.assertFalse(P != Program(2, 1, (0, 1), 1, P.table))
        parts = [2, 1, (0, 0), 1, ONE]
        for at, other in enumerate([1, 2, (0, 1), 2, ONE * 2]):
            changed = list(parts)
            changed[at] = other
            if at == 0:
                changed[2] = (0,)
            self.assertFalse(Program(*parts) == Program(*changed))
        self.assertFalse(Program(1, 1, (0,), 1, ONE) == Program(1, 1, (0,), None, ONE))

    def test_equal_to_nothing_else(self):
        class Other(Program):
            pass

        for thing in odd_things():
            if thing is not P:
                self.assertIs(P == thing, False)
                self.assertIs(thing == P, False)
        self.assertNotEqual(P, T)
        self.assertNotEqual(P, (2, 1, (0, 1), 1, P.table))
        self.assertNotEqual(P, Other(2, 1, (0, 1), 1, P.table))
        self.assertNotEqual(Other(2, 1, (0, 1), 1, P.table), P)
