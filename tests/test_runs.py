"""4.5: runs led deed by deed."""

import unittest

from tests import naive
from tests.things import (C, D, P, STOP, T, lasting_program, odd_things, random_contents, random_program, seeded)
from wholewalks.errors import NoContents, NoHand, NothingDone, Over
from wholewalks.leading import program_events
from wholewalks.programs import Program
from wholewalks.runs import Run

BAD_CONTENTS = [(), (("a", ""),), (("a", ""),) * 3, [("a", ""), ("a", "")], (("b", ""), ("a", "")),
                (("a", ""), ["a", ""]), ("a", "a"), (("a", ""), None)]


def told(run, hands):
    """All that a run tells."""
    return (run.standing(), tuple([run.walks(hand) for hand in range(hands)]), run.looked(), run.deeds())


def naive_told(walk, hands, deeds):
    """The same of a run as the document tells it."""
    looked = [0] * walk.program.rows
    for row, place in walk.seen:
        looked[row] += naive.sign(walk.contents[row], place) != "end"
    return (walk.standing, tuple([tuple(walk.open[hand]) for hand in range(hands)]), tuple(looked), deeds)


class RunTest(unittest.TestCase):

    def test_by_hand(self):
        run = Run(P, C)
        self.assertEqual(told(run, 2), (0, ((), ()), (0, 0), 0))
        self.assertEqual(run.deed(), ("look", 0, "a"))
        self.assertEqual(told(run, 2), (1, (((0, 0),), ()), (1, 0), 1))
        self.assertEqual(run.deed(), ("look", 1, "a"))
        self.assertEqual(run.deed(), ("look", 0, "a"))
        self.assertEqual(told(run, 2), (3, (((0, 1),), ((1, 0),)), (2, 1), 3))
        self.assertEqual(run.deed(), ("look", 1, "end"))
        # The end closes the walk, and is no letter.
        self.assertEqual(told(run, 2), (4, (((0, 1),), ()), (2, 1), 4))
        self.assertEqual(run.deed(), STOP)
        self.assertEqual(told(run, 2), (4, (((0, 1),), ()), (2, 1), 5))
        with self.assertRaises(Over):
            run.deed()
        self.assertEqual(told(run, 2), (4, (((0, 1),), ()), (2, 1), 5))

    def test_deeds_without_results(self):
        run = Run(P, C)
        run.deed()
        self.assertIsNone(run.back())

    def test_walks_within_walks(self):
        # Row 0, row 1 within it, row 0 once more within that: all of one hand; hand 1 has none open.
        table = (("begin", 0, (1, 1)), ("begin", 1, (2, 2)), ("begin", 0, (3, 3)), ("on", 0, (4, 4)), ("leave", 0, 5), STOP)
        run = Run(Program(3, 1, (0, 0, 1), 3, table), (("", "a"), ("aa", ""), ("", "")))
        self.assertEqual([run.deed() for _ in range(3)], [("look", 0, "a"), ("look", 1, "a"), None])
        self.assertEqual(run.walks(0), ((0, 0), (1, 0), (0, 0)))
        self.assertEqual(run.walks(1), ())
        self.assertEqual(run.deed(), ("look", 0, "a"))
        self.assertEqual(run.walks(0), ((0, 0), (1, 0), (0, 1)))
        self.assertIsNone(run.deed())
        self.assertEqual(told(run, 2), (5, (((0, 0), (1, 0)), ()), (2, 1, 0), 5))

    def test_letters_are_counted_once(self):
        table = (("begin", 0, (1, 2)), ("on", 0, (1, 2)), ("begin", 0, (1, 0)))
        run = Run(Program(1, 1, (0,), 1, table), (("aaa", ""),))
        for _ in range(30):
            run.deed()
        self.assertEqual(run.looked(), (3,))
        self.assertEqual(run.deeds(), 30)

    def test_rows_that_do_not_end(self):
        run = Run(P, D)
        for _ in range(2001):
            run.deed()
        self.assertEqual(told(run, 2), (3, (((0, 1000),), ((1, 999),)), (1001, 1000), 2001))

    def over_at(self, program, contents, events, standing):
        """Leads a run that is over behind these events, and takes it back from there to its begin."""
        run = Run(program, contents)
        hands = max(program.dealing) + 1
        states = []
        for event in events:
            states.append(told(run, hands))
            self.assertEqual(run.deed(), event)
        self.assertEqual(run.standing(), standing)
        for _ in range(3):
            with self.assertRaises(Over):
                run.deed()
        self.assertEqual(run.deeds(), len(events))
        for at in range(len(events) - 1, -1, -1):
            run.back()
            self.assertEqual(told(run, hands), states[at])
        with self.assertRaises(NothingDone):
            run.back()
        self.assertEqual(told(run, hands), states[0])
        for event in events:
            self.assertEqual(run.deed(), event)
        with self.assertRaises(Over):
            run.deed()
        # What could not be done is done again and again, if it is taken back each time.
        for _ in range(3):
            run.back()
            self.assertEqual(run.deed(), events[-1])

    def test_stop(self):
        self.over_at(Program(1, 1, (0,), 1, (STOP,)), (("a", ""),), [STOP], 0)
        self.over_at(P, C, [("look", 0, "a"), ("look", 1, "a"), ("look", 0, "a"), ("look", 1, "end"), STOP], 4)

    def test_none(self):
        self.over_at(Program(1, 1, (0,), None, (("leave", 0, 0),)), (("a", ""),), [("none", 0)], 0)
        self.over_at(Program(2, 1, (0, 1), 1, (("begin", 0, (1, 1)), ("on", 1, (0, 0)))), C, [("look", 0, "a"), ("none", 1)], 1)
        # The walk that ended is open no more.
        self.over_at(Program(1, 1, (0,), 1, (("begin", 0, (1, 1)), ("on", 0, (1, 2)), ("leave", 0, 0))), (("a", ""),),
                     [("look", 0, "a"), ("look", 0, "end"), ("none", 0)], 2)

    def test_deep(self):
        self.over_at(Program(1, 1, (0,), 3, (("begin", 0, (0, 0)),)), (("a", ""),),
                     [("look", 0, "a"), None, None, ("deep", 0)], 0)
        self.over_at(Program(3, 1, (1, 0, 1), 1, (("begin", 2, (1, 1)), ("begin", 0, (1, 1)))), (("", ""), ("", ""), ("a", "")),
                     [("look", 2, "a"), ("deep", 1)], 1)

    def test_an_idle_run_goes_on(self):
        run = Run(Program(1, 1, (0,), 1, (("begin", 0, (1, 1)), ("leave", 0, 0))), (("a", ""),))
        self.assertEqual(run.deed(), ("look", 0, "a"))
        for _ in range(3000):
            self.assertIsNone(run.deed())
        self.assertEqual(run.deeds(), 3001)
        self.assertEqual(run.standing(), 1)
        grows = Run(Program(1, 1, (0,), None, (("begin", 0, (0, 0)),)), (("", "a"),))
        for _ in range(3000):
            grows.deed()
        self.assertEqual(grows.walks(0), ((0, 0),) * 3000)
        for _ in range(2999):
            grows.back()
        self.assertEqual(told(grows, 1), (0, (((0, 0),),), (1,), 1))

    def test_no_hands(self):
        run = Run(P, C)
        run.deed()
        before = told(run, 2)
        for hand in [-1, 2, 10 ** 39, True, False, None, "0", (0,), [0], 0.0] + odd_things():
            with self.assertRaises(NoHand):
                run.walks(hand)
        with self.assertRaises(NoHand):
            Run(Program(2, 1, (0, 0), 1, (STOP,)), C).walks(1)
        self.assertEqual(told(run, 2), before)

    def test_no_contents(self):
        for contents in BAD_CONTENTS + odd_things():
            with self.assertRaises(NoContents):
                Run(P, contents)

    def test_nothing_done(self):
        run = Run(P, C)
        for _ in range(3):
            with self.assertRaises(NothingDone):
                run.back()
        self.assertEqual(told(run, 2), (0, ((), ()), (0, 0), 0))
        self.assertEqual(run.deed(), ("look", 0, "a"))

    def test_copies_go_on_apart(self):
        run = Run(P, (("aaa", ""), ("", "a")))
        for _ in range(3):
            run.deed()
        copy = run.copy()
        self.assertIsInstance(copy, Run)
        self.assertNotEqual(copy, run)
        before = told(run, 2)
        self.assertEqual(told(copy, 2), before)
        copy.deed()
        copy.deed()
        self.assertEqual(told(run, 2), before)
        run.back()
        run.back()
        run.back()
        self.assertEqual(told(copy, 2), (3, (((0, 2),), ((1, 1),)), (3, 2), 5))
        for _ in range(5):
            copy.back()
        with self.assertRaises(NothingDone):
            copy.back()
        self.assertEqual(told(run, 2), told(Run(P, C), 2))

    def test_a_copy_of_a_run_that_is_over(self):
        run = Run(Program(1, 1, (0,), 1, (STOP,)), (("", ""),))
        early = run.copy()
        run.deed()
        copy = run.copy()
        with self.assertRaises(Over):
            copy.deed()
        copy.back()
        with self.assertRaises(Over):
            run.deed()
        self.assertEqual(copy.deed(), STOP)
        self.assertEqual(early.deed(), STOP)

    def test_runs_are_equal_to_nothing_else(self):
        run = Run(P, C)
        for thing in [P, T, C, None, 0] + odd_things():
            self.assertNotEqual(run, thing)

    def test_by_chance(self):
        rng = seeded(50)
        over = 0
        for number in range(500):
            bound = number % 3 > 0
            program = lasting_program(rng, rng.randint(1, 3), rng.randint(1, 3), bound) if number % 2 else random_program(
                rng, bound=bound)
            contents = random_contents(rng, program.rows, program.letters)
            hands = max(program.dealing) + 1
            run, walk = Run(program, contents), naive.Walk(program, contents)
            states, events = [told(run, hands)], []
            for _ in range(40):
                event = run.deed()
                self.assertEqual(event, walk.deed())
                events.append(event)
                states.append(told(run, hands))
                self.assertEqual(states[-1], naive_told(walk, hands, len(events)))
                if event is not None and event[0] not in ("look", "say"):
                    over += 1
                    with self.assertRaises(Over):
                        run.deed()
                    break
            shown = [event for event in events if event is not None]
            self.assertEqual(shown, program_events(program, contents, 40)[:len(shown)])
            self.wander(rng, run, states, events, hands)
        self.assertGreater(over, 100)

    def wander(self, rng, run, states, events, hands):
        """Leads a run and copies of it to and fro, along what it did."""
        at = len(events)
        for _ in range(60):
            if rng.random() < 0.1:
                other = run.copy()
                for _ in range(rng.randint(0, at)):
                    run.back()
                run = other
            if at > 0 and (at == len(events) or rng.random() < 0.55):
                run.back()
                at -= 1
            elif at < len(events):
                self.assertEqual(run.deed(), events[at])
                at += 1
            self.assertEqual(told(run, hands), states[at])
