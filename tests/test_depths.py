"""4.4: how deep programs look, and what their hands follow."""

import unittest

from tests import naive
from tests.things import C, D, P, STOP, lasting_program, odd_things, random_contents, sames, seeded
from wholewalks.depths import depths, followed
from wholewalks.errors import NoBound, NoContents
from wholewalks.programs import Program

BAD_CONTENTS = [(), (("a", ""),), (("a", ""),) * 3, [("a", ""), ("a", "")], (("b", ""), ("a", "")),
                (("a", ""), ["a", ""]), ("a", "a"), (("a", ""), None)]


class DepthsTest(unittest.TestCase):

    def told(self, program, contents, deep, rows):
        self.assertEqual(depths(program, contents), deep)
        self.assertEqual(followed(program, contents), rows)

    def test_e05(self):
        self.assertEqual(followed(P, D), (0, 1))
        self.assertEqual(depths(P, D), (None, None))

    def test_runs_that_end(self):
        self.told(P, C, (2, 1), (None, None))
        self.told(P, (("", ""), ("", "a")), (0, 0), (None, None))
        self.told(P, (("", "a"), ("aaa", "")), (4, 3), (None, None))
        self.told(Program(1, 1, (0,), 1, (("begin", 0, (0, 0)),)), (("", "a"),), (1,), (None,))
        self.told(Program(1, 1, (0,), 1, (("on", 0, (0, 0)),)), (("", "a"),), (0,), (None,))
        self.told(Program(1, 1, (0,), 1, (STOP,)), (("", "a"),), (0,), (None,))

    def test_runs_that_go_on_without_more_letters(self):
        self.told(Program(1, 1, (0,), 1, (("say", "x", 0),)), (("", "a"),), (0,), (None,))
        self.told(Program(1, 1, (0,), 1, (("begin", 0, (1, 1)), ("leave", 0, 0))), (("", "a"),), (1,), (None,))
        # Two letters of row 0 are walked again and again.
        table = (("begin", 0, (1, 1)), ("on", 0, (2, 2)), ("leave", 0, 0))
        self.told(Program(1, 1, (0,), 1, table), (("", "a"),), (2,), (None,))
        # All of it, to its end.
        table = (("begin", 0, (1, 0)), ("on", 0, (1, 0)))
        self.told(Program(1, 1, (0,), 1, table), (("a" * 60, ""),), (60,), (None,))
        self.told(Program(1, 1, (0,), 1, table), (("", ""),), (0,), (None,))
        self.told(Program(1, 1, (0,), 1, table), (("", "a"),), (None,), (0,))

    def test_one_hand_follows_one_row(self):
        # At each letter of row 0 row 1 is walked up to its first b, and left.
        table = (("begin", 0, (1, 1, 5)), ("begin", 1, (2, 3, 4)), ("on", 0, (2, 3, 4)), ("leave", 0, 4), ("on", 0, (1, 1, 5)),
                 STOP)
        program = Program(2, 2, (0, 0), 2, table)
        self.told(program, (("", "a"), ("aaab", "")), (None, 4), (0,))
        self.told(program, (("", "a"), ("aaa", "")), (None, 3), (0,))
        self.told(program, (("", "a"), ("", "aaab")), (None, 4), (0,))
        self.told(program, (("", "a"), ("", "a")), (1, None), (1,))
        self.told(program, (("", "a"), ("", "")), (None, 0), (0,))
        self.told(program, (("aab", ""), ("b", "")), (3, 1), (None,))

    def test_the_inner_walk_is_followed(self):
        table = (("begin", 0, (1, 1)), ("on", 0, (2, 2)), ("begin", 0, (3, 3)), ("on", 0, (3, 3)))
        self.told(Program(1, 1, (0,), 2, table), (("", "a"),), (None,), (0,))
        self.told(Program(1, 1, (0,), 1, table), (("", "a"),), (2,), (None,))
        table = (("begin", 0, (1, 1)), ("on", 0, (2, 2)), ("begin", 1, (3, 3)), ("on", 0, (3, 3)))
        self.told(Program(2, 1, (0, 0), 2, table), D, (2, None), (1,))

    def test_a_walk_goes_deeper_only_in_the_first_round(self):
        # A walk of row 1 is open at its place 3 when the round begins; in each later one it is left at place 1.
        table = (("begin", 0, (1, 1)), ("begin", 1, (2, 2)), ("on", 0, (3, 3)), ("on", 0, (4, 4)), ("on", 0, (5, 5)),
                 ("leave", 0, 6), ("on", 0, (7, 7)), ("begin", 1, (8, 8)), ("on", 0, (5, 5)))
        self.told(Program(2, 1, (0, 0), 2, table), D, (None, 4), (0,))

    def test_two_hands(self):
        # Hand 1 follows row 1 for ever while hand 0 walks row 0 again and again.
        table = (("begin", 1, (1, 1)), ("begin", 0, (2, 2)), ("on", 0, (3, 3)), ("leave", 0, 4), ("on", 1, (1, 1)))
        self.told(Program(2, 1, (0, 1), 1, table), D, (2, None), (None, 1))
        self.told(Program(2, 1, (1, 0), 1, tuple([
            (item[0], item[1] if item[0] == "begin" else 1 - item[1]) + item[2:] for item in table])), D, (2, None), (1, None))

    def test_rounds_of_letters(self):
        # At each b of row 0 row 1 goes on by one letter, until it shows a b: then row 2 is looked at.
        table = (("begin", 1, (1, 1, 6)), ("begin", 0, (2, 3, 6)), ("on", 0, (2, 3, 6)), ("on", 1, (2, 4, 6)),
                 ("begin", 2, (5, 5, 5)), ("leave", 2, 2), STOP)
        program = Program(3, 2, (0, 1, 2), 1, table)
        self.told(program, (("", "a" * 58 + "b"), ("", "a"), ("", "b")), (None, None, 0), (0, 1, None))
        self.told(program, (("", "a" * 58 + "b"), ("", "a" * 52 + "b"), ("", "b")), (None, None, 1), (0, 1, None))
        self.told(program, (("", "a" * 58 + "b"), ("a" * 9, ""), ("", "b")), (59 * 9, 9, 0), (None, None, None))

    def test_rounds_that_come_to_10000_together(self):
        table = (("begin", 0, (1, 1, 6)), ("begin", 1, (2, 2, 6)), ("begin", 2, (3, 3, 6)), ("on", 0, (4, 4, 6)),
                 ("on", 1, (5, 5, 6)), ("on", 2, (3, 3, 6)), STOP)
        program = Program(3, 2, (0, 1, 2), 1, table)
        contents = (("a" * 60, "a" * 24 + "b"), ("ab", "a" * 15 + "b"), ("", "a" * 22 + "b"))
        self.told(program, contents, (None, None, None), (0, 1, 2))
        self.told(program, contents[:2] + (("a" * 60, ""),), (61, 61, 60), (None, None, None))

    def test_depth_60(self):
        table = tuple([("begin", 0, (at + 1, at + 1)) for at in range(60)]) + (("on", 0, (60, 60)),)
        self.told(Program(1, 1, (0,), 60, table), (("", "a" * 60),), (None,), (0,))
        self.told(Program(1, 1, (0,), 59, table), (("", "a" * 60),), (1,), (None,))
        self.told(Program(1, 1, (0,), 60, table), (("a" * 60, ""),), (60,), (None,))

    def test_contents_written_otherwise(self):
        rng = seeded(50)
        for _ in range(150):
            program = lasting_program(rng, 2, 2)
            contents = random_contents(rng, 2, 2)
            others = tuple([rng.choice(sames(content)) for content in contents])
            self.assertEqual(depths(program, contents), depths(program, others))
            self.assertEqual(followed(program, contents), followed(program, others))

    def test_by_chance(self):
        rng = seeded(51)
        ever = 0
        for _ in range(500):
            rows, letters = rng.randint(1, 3), rng.randint(1, 2)
            program = lasting_program(rng, rows, letters)
            contents = random_contents(rng, rows, letters)
            deep, rows_followed = depths(program, contents), followed(program, contents)
            some = naive.letters_seen(program, contents, 1500)
            more = naive.letters_seen(program, contents, 3000)
            for row in range(rows):
                if deep[row] is None:
                    ever += 1
                    self.assertGreater(more[row], some[row])
                    self.assertEqual(rows_followed[program.dealing[row]], row)
                else:
                    self.assertEqual((some[row], more[row]), (deep[row], deep[row]))
            for hand, row in enumerate(rows_followed):
                if row is not None:
                    self.assertEqual(program.dealing[row], hand)
                    self.assertIsNone(deep[row])
        self.assertGreater(ever, 15)

    def test_no_bound_first(self):
        program = Program(2, 1, (0, 0), None, (STOP,))
        for contents in BAD_CONTENTS + [C]:
            for told in (depths, followed):
                with self.assertRaises(NoBound):
                    told(program, contents)

    def test_wrong_contents(self):
        for contents in BAD_CONTENTS + odd_things():
            for told in (depths, followed):
                with self.assertRaises(NoContents):
                    told(P, contents)
