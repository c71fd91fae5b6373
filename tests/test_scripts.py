"""5.1 and 5.2: scripts, their events, and the programs compiled from them."""

import itertools
import unittest

from tests import naive
from tests.things import C, STOP, odd_things, random_contents, random_script, seeded
from wholewalks.compiling import compiled
from wholewalks.errors import BadScript, NoContents, NoNumber, TooMany
from wholewalks.leading import program_events
from wholewalks.programs import Program
from wholewalks.scripts import Script, script_events

ONE = ((STOP,),)
E14 = Script(1, 1, (0,), ((("each", 0, 0, (("say", "x"),)),),))
BAD_NUMBERS = [-1, 10001, True, False, None, "9", (9,), 10 ** 39]


def deep_block(deep, kind):
    """A block with statements so deep."""
    block = (STOP,)
    for _ in range(deep - 1):
        if kind == "each":
            block = (("each", 0, 0, block),)
        elif kind == "then":
            block = (("if", 0, 0, block, ()),)
        else:
            block = (("if", 0, 0, (), block),)
    return block


class ScriptTest(unittest.TestCase):

    def bad(self, part, *parts):
        with self.assertRaises(BadScript, msg=parts) as caught:
            Script(*parts)
        self.assertEqual(caught.exception.part, part, parts)

    def test_attributes(self):
        blocks = ((("over", 1), ("set", 3, 9), ("if", 3, 9, (), (STOP,))), (("each", 1, 0, (("leave", 1),)),))
        script = Script(2, 3, (0, 1), blocks)
        self.assertEqual((script.rows, script.letters, script.dealing, script.blocks), (2, 3, (0, 1), blocks))
        self.assertEqual(sorted(vars(script)), ["blocks", "dealing", "letters", "rows"])

    def test_equal_if_all_four_are(self):
        self.assertEqual(E14, Script(1, 1, (0,), ((("each", 0, 0, (("say", "x"),)),),)))
        self.assertNotEqual(E14, Script(1, 2, (0,), E14.blocks))
        self.assertNotEqual(E14, Script(2, 1, (0, 0), E14.blocks))
        self.assertNotEqual(E14, Script(1, 1, (0,), ONE))
        self.assertNotEqual(Script(2, 1, (0, 1), ((), ())), Script(2, 1, (1, 0), ((), ())))
        for thing in odd_things() + [E14.blocks]:
            self.assertFalse(E14 == thing and isinstance(thing, Script))
            if not isinstance(thing, Script):
                self.assertNotEqual(E14, thing)
        self.assertNotEqual(E14, compiled(E14))

    def test_rows_then_letters_then_dealing_then_blocks(self):
        for thing in [0, 7, -1, True, None, "1", (1,), 10 ** 39] + odd_things():
            self.bad("rows", thing, 0, None, None)
        for thing in [0, 4, -1, True, None, "a", (1,), 10 ** 39] + odd_things():
            self.bad("letters", 1, thing, None, None)
        for thing in [(0, 1), (0, 1, 2, 3), (0, 2, 0), (1, 1, 1), (1, 2, 2), (0, 0, -1), (0, 1, True), (False, 1, 2),
                      [0, 1, 2], 0, None, "000", (), (0, 1, 10 ** 39)] + odd_things():
            self.bad("dealing", 3, 1, thing, None)
        for thing in [(), ((), ()), [()], None, "stop", {0: ()}, ((STOP,), (STOP,)), ([],), ([STOP],), (STOP,),
                      (None,), ("stop",), ({},), 0] + odd_things():
            self.bad("blocks", 1, 1, (0,), thing)
        Script(6, 3, (0, 1, 2, 3, 4, 5), ((),) * 6)
        self.bad("blocks", 6, 3, (0, 1, 2, 3, 4, 5), ((),) * 5)
        self.bad("blocks", 6, 3, (0, 1, 2, 3, 4, 5), ((),) * 7)
        self.bad("blocks", 6, 3, (0, 1, 2, 3, 4, 4), ((),) * 6)

    def test_statements(self):
        right = [("say", "a"), ("say", "abcdefgh"), ("set", 0, 0), ("set", 3, 9), ("if", 0, 0, (), ()), ("if", 3, 9, (STOP,), ()),
                 STOP, ("each", 0, 0, ()), ("each", 2, 3, (STOP,)), ("over", 1), ("over", 2), ("each", 0, 0, (("leave", 1),)),
                 ("each", 0, 0, (("each", 2, 0, (("leave", 2), ("leave", 1))), ("leave", 1)))]
        wrong = [["stop"], ("stop", 0), "stop", (), None, 0, ("halt",), (None,), ("pass",), ("say", ""), ("say", "abcdefghi"),
                 ("say", "A"), ("say", "a b"), ("say", 0), ("say", None), ("say",), ("say", "a", 0), ["say", "a"], ("say", b"a"),
                 ("say", ["a"]), ("set", 4, 0), ("set", -1, 0), ("set", 0, 10), ("set", 0, -1), ("set", True, 0),
                 ("set", 0, True), ("set", 0), ("set", 0, 0, 0), ["set", 0, 0], ("set", "0", 0), ("set", 0, None),
                 ("set", 10 ** 39, 0), ("set", 0, 10 ** 39), ("if", 4, 0, (), ()), ("if", 0, 10, (), ()), ("if", True, 0, (), ()),
                 ("if", 0, False, (), ()), ("if", 0, 0, ()), ("if", 0, 0, (), (), ()), ["if", 0, 0, (), ()], ("if", 0, 0, [], ()),
                 ("if", 0, 0, (), []), ("if", 0, 0, None, ()), ("if", 0, 0, (), None), ("if", 0, 0, STOP, ()),
                 ("if", 0, 0, (None,), ()), ("if", 0, 0, (), (("halt",),)), ("if", 0, 0, (("leave", 1),), ()), ("each", 1, 0, ()),
                 ("each", 3, 0, ()), ("each", 4, 0, ()), ("each", -1, 0, ()), ("each", False, 0, ()), ("each", 0, 4, ()), ("each", 0, True, ()),
                 ("each", 0, 0, []), ("each", 0, 0, None), ("each", 0, 0), ("each", 0, 0, (), ()), ["each", 0, 0, ()],
                 ("each", 0, 0, STOP), ("each", 0, 0, ([],)), ("each", 10 ** 39, 0, ()), ("each", "0", 0, ()), ("leave", 1),
                 ("leave", 0), ("each", 0, 0, (("leave", 2),)), ("each", 0, 0, (("leave", 0),)), ("each", 0, 0, (("leave", -1),)),
                 ("each", 0, 0, (("leave", True),)), ("each", 0, 0, (("leave",),)), ("each", 0, 0, (["leave", 1],)),
                 ("each", 0, 0, (("leave", 10 ** 39),)), ("each", 0, 0, (("leave", "1"),)), ("each", 0, 0, (("leave", 1, 1),)),
                 ("over", 0), ("over", 3), ("over", -1), ("over", True), ("over", None), ("over", "1"), ("over",), ("over", 1, 1),
                 ["over", 1], ("over", 10 ** 39), (b"stop",), (("stop",),)]
        for statement in right:
            Script(4, 1, (0, 1, 0, 2), ((statement,), (), ()))
            Script(4, 1, (0, 1, 0, 2), ((("if", 0, 0, (statement,), (statement,)),), (), ()))
        for statement in wrong + odd_things():
            if statement not in right:
                self.bad("blocks", 4, 1, (0, 1, 0, 2), ((statement,), (), ()))
                self.bad("blocks", 4, 1, (0, 1, 0, 2), ((STOP, statement), (), ()))
                self.bad("blocks", 4, 1, (0, 1, 0, 2), ((("if", 0, 0, (), (statement,)),), (), ()))

    def test_each_hand_has_rows_and_overs_of_its_own(self):
        for hand, row in itertools.product(range(3), range(4)):
            blocks = [(), (), ()]
            blocks[hand] = (("each", row, 0, ()),)
            if (0, 1, 0, 2)[row] == hand:
                Script(4, 1, (0, 1, 0, 2), tuple(blocks))
            else:
                self.bad("blocks", 4, 1, (0, 1, 0, 2), tuple(blocks))
        for hand, other in itertools.product(range(3), range(-1, 4)):
            blocks = [(), (), ()]
            blocks[hand] = (("over", other),)
            if hand != other and 0 <= other <= 2:
                Script(4, 1, (0, 1, 0, 2), tuple(blocks))
            else:
                self.bad("blocks", 4, 1, (0, 1, 0, 2), tuple(blocks))

    def test_ifs_are_not_counted_by_leaves(self):
        def script(many):
            inner = ("if", 0, 0, (("if", 0, 0, (), (("leave", many),)),), ())
            return (1, 1, (0,), ((("each", 0, 0, (("if", 0, 0, (("each", 0, 0, (inner,)),), ()),)),),))

        Script(*script(1))
        Script(*script(2))
        self.bad("blocks", *script(3))
        # An each that does not stand around the leave.
        self.bad("blocks", 1, 1, (0,), ((("each", 0, 0, ()), ("leave", 1)),))

    def test_12_deep(self):
        for kind in ("each", "then", "else"):
            for deep in range(1, 13):
                Script(1, 1, (0,), (deep_block(deep, kind),))
            for deep in (13, 14, 30):
                self.bad("blocks", 1, 1, (0,), (deep_block(deep, kind),))
        # The block in an each that stands 12 deep may be empty.
        block = (("each", 0, 0, ()),)
        for _ in range(11):
            block = (("each", 0, 0, block),)
        Script(1, 1, (0,), (block,))
        self.bad("blocks", 1, 1, (0,), ((("each", 0, 0, block),),))

    def test_200_statements(self):
        Script(1, 1, (0,), ((STOP,) * 200,))
        self.bad("blocks", 1, 1, (0,), ((STOP,) * 201,))
        Script(2, 1, (0, 1), ((STOP,) * 150, (STOP,) * 50))
        self.bad("blocks", 2, 1, (0, 1), ((STOP,) * 150, (STOP,) * 51))
        inner = ("if", 0, 0, (STOP,) * 60, (("each", 0, 0, (STOP,) * 60),))
        Script(2, 1, (0, 1), ((inner,), (STOP,) * 78))
        self.bad("blocks", 2, 1, (0, 1), ((inner,), (STOP,) * 79))


class EventsTest(unittest.TestCase):

    def told(self, script, contents, found):
        """Holds the events of the script, and of the program compiled from it."""
        self.assertEqual(script_events(script, contents, 10000), found)
        self.assertEqual(naive.script_events(script, contents, 10000), found)
        self.assertEqual(program_events(compiled(script), contents, 10000), found)
        for many in range(min(len(found), 12)):
            self.assertEqual(script_events(script, contents, many), found[:many])

    def test_e14(self):
        self.assertEqual(script_events(Script(1, 1, (0,), ((("each", 0, 0, (("say", "x"),)),),)), (("a", ""),), 9),
                         [("look", 0, "a"), ("say", "x"), ("look", 0, "end"), ("stop",)])

    def test_the_end_of_a_block(self):
        self.told(Script(1, 1, (0,), ((),)), (("", ""),), [STOP])
        self.told(Script(2, 1, (0, 1), ((("over", 1), ("say", "x")), ())), C, [STOP])
        self.told(Script(1, 1, (0,), ((STOP, ("say", "x")),)), (("", ""),), [STOP])

    def test_boxes(self):
        told = [("set", 1, 5), ("if", 1, 5, (("say", "five"),), (("say", "other"),)), ("if", 0, 0, (("say", "zero"),), ()),
                ("if", 2, 1, (("say", "one"),), ()), ("set", 1, 6), ("if", 1, 5, (), (("say", "other"),))]
        self.told(Script(1, 1, (0,), (tuple(told),)), (("", ""),), [("say", "five"), ("say", "zero"), ("say", "other"), STOP])

    def test_letters_are_put_into_boxes_and_stay(self):
        ask = tuple([("if", 2, value, (("say", "abc"[value]),), ()) for value in range(3)])
        script = Script(1, 3, (0,), ((("set", 2, 9), ("each", 0, 2, ask)) + ask + (("if", 2, 9, (("say", "none"),), ()),),))
        self.told(script, (("cab", ""),), [("look", 0, "c"), ("say", "c"), ("look", 0, "a"), ("say", "a"), ("look", 0, "b"),
                                           ("say", "b"), ("look", 0, "end"), ("say", "b"), STOP])
        self.told(script, (("", ""),), [("look", 0, "end"), ("say", "none"), STOP])

    def test_a_box_set_in_the_block_is_lost_at_the_next_letter(self):
        script = Script(1, 1, (0,), ((("each", 0, 0, (("if", 0, 0, (("say", "a"),), (("say", "z"),)), ("set", 0, 7))),
                                      ("if", 0, 7, (("say", "set"),), ())),))
        self.told(script, (("aa", ""),), [("look", 0, "a"), ("say", "a"), ("look", 0, "a"), ("say", "a"), ("look", 0, "end"),
                                          ("say", "set"), STOP])

    def test_eaches_within_eaches(self):
        script = Script(2, 1, (0, 0), ((("each", 0, 0, (("each", 1, 0, (("say", "x"),)), ("say", "y"))),),))
        self.told(script, (("aa", ""), ("a", "")), [("look", 0, "a"), ("look", 1, "a"), ("say", "x"), ("look", 1, "end"),
                                                    ("say", "y"), ("look", 0, "a"), ("say", "x"), ("say", "y"),
                                                    ("look", 0, "end"), STOP])
        self.told(script, (("", ""), ("a", "")), [("look", 0, "end"), STOP])

    def test_leaves(self):
        inner = ("if", 1, 1, (("leave", 2),), (("if", 2, 1, (("leave", 1),), ()),))
        script = Script(3, 2, (0, 0, 0), ((("each", 0, 0, (("each", 1, 1, (("each", 2, 2, (inner, ("say", "x"))), ("say", "y"))),
                                                          ("say", "z"))), ("say", "w")),))
        self.told(script, (("a", ""), ("ab", ""), ("ab", "")), [
            ("look", 0, "a"), ("look", 1, "a"), ("look", 2, "a"), ("say", "x"), ("look", 2, "b"), ("say", "y"), ("look", 1, "b"),
            ("say", "z"), ("look", 0, "end"), ("say", "w"), STOP])
        # A leave goes on behind the each: what is behind it is of the each further out.
        script = Script(1, 1, (0,), ((("each", 0, 0, (("each", 0, 1, (("each", 0, 2, (("leave", 3),)),)), ("say", "x"))),
                                      ("say", "y")),))
        self.told(script, (("", "a"),), [("look", 0, "a"), ("say", "y"), STOP])

    def test_leaves_leave_their_walks(self):
        # Were the walks not left, there would be more open than eaches are nested.
        script = Script(1, 1, (0,), ((("each", 0, 0, (("each", 0, 0, (("if", 0, 0, (("leave", 1),), ()),)),)),
                                      ("each", 0, 0, (("each", 0, 0, (("leave", 2),)),)), ("each", 0, 0, ())),))
        self.told(script, (("aaa", ""),), [("look", 0, "a")] * 3 + [("look", 0, "end"), STOP])

    def test_each_over_an_empty_row(self):
        script = Script(2, 1, (0, 0), ((("each", 0, 0, (("say", "x"),)), ("each", 1, 0, (("each", 0, 0, (STOP,)),)),),))
        self.told(script, (("", ""), ("aa", "")), [("look", 0, "end"), ("look", 1, "a"), ("look", 1, "a"), ("look", 1, "end"),
                                                   STOP])

    def test_empty_blocks(self):
        script = Script(1, 2, (0,), ((("each", 0, 0, ()), ("if", 0, 1, (), ()), ("each", 0, 0, ())),))
        self.told(script, (("ab", ""),), [("look", 0, "a"), ("look", 0, "b"), ("look", 0, "end"), STOP])

    def test_hands_that_hand_over_out_of_an_each(self):
        # The document's t: by turns, until one row ends.
        script = Script(2, 1, (0, 1), ((("each", 0, 0, (("over", 1),)), STOP), (("each", 1, 0, (("over", 0),)),)))
        self.told(script, C, [("look", 0, "a"), ("look", 1, "a"), ("look", 0, "a"), ("look", 1, "end"), STOP])
        self.told(script, (("", "a"), ("", "a")), [("look", 0, "a"), ("look", 1, "a")] * 5000)
        # Handed over in an if in an each in an each, and gone on there.
        script = Script(2, 2, (1, 0), ((("each", 1, 1, (("each", 1, 0, (("if", 0, 1, (("over", 1), ("say", "b")), ()),)),)),),
                                       (("say", "one"), ("over", 0), ("say", "two"), ("over", 0), ("say", "three"))))
        self.told(script, (("", ""), ("bb", "")), [("look", 1, "b"), ("say", "one"), ("say", "b"), ("look", 1, "b"), ("say", "two"),
                                                   ("say", "b"), ("look", 1, "end"), ("say", "three"), STOP])

    def test_hands_share_boxes(self):
        script = Script(2, 2, (0, 1), ((("each", 0, 0, (("over", 1),)),),
                                       (("each", 1, 1, (("if", 0, 1, (("say", "x"),), ()), ("set", 0, 3), ("over", 0))),)))
        self.told(script, (("ab", ""), ("", "b")), [("look", 0, "a"), ("look", 1, "b"), ("look", 0, "b"), ("look", 1, "b"),
                                                    ("say", "x"), ("look", 0, "end"), STOP])

    def test_three_hands(self):
        script = Script(3, 1, (0, 1, 2), ((("over", 2), ("say", "a")), (("say", "b"), ("over", 0)), (("say", "c"), ("over", 1))))
        self.told(script, (("", ""),) * 3, [("say", "c"), ("say", "b"), ("say", "a"), STOP])

    def test_rows_that_do_not_end(self):
        # An each that says nothing goes on for ever, and looks at ever more letters.
        script = Script(1, 2, (0,), ((("each", 0, 0, ()),),))
        self.told(script, (("b", "a"),), [("look", 0, "b")] + [("look", 0, "a")] * 9999)
        # What is looked at again has no event, until the inner each comes further.
        script = Script(1, 1, (0,), ((("each", 0, 0, (("if", 1, 0, (("set", 1, 1),), (("each", 0, 0, ()),)),)),),))
        self.told(script, (("", "a"),), [("look", 0, "a")] * 10000)
        script = Script(2, 2, (0, 1), ((("each", 0, 0, (("over", 1),)),), (("each", 1, 1, ()), ("over", 0))))
        self.told(script, (("", "ab"), ("", "b")), [("look", 0, "a")] + [("look", 1, "b")] * 9999)

    def test_12_nested(self):
        block = (("say", "x"), ("leave", 11))
        for _ in range(11):
            block = (("each", 0, 0, block),)
        script = Script(1, 1, (0,), (block,))
        self.told(script, (("aa", ""),), [("look", 0, "a"), ("say", "x"), STOP])
        self.assertEqual(compiled(script).depth, 11)

    def test_wrong_contents_then_wrong_numbers(self):
        for contents in [(), (("a", ""),) * 2, [("a", "")], (("b", ""),), (["a", ""],), ("a",), (None,)] + odd_things():
            for many in (9, -1, None):
                with self.assertRaises(NoContents):
                    script_events(E14, contents, many)
        for many in BAD_NUMBERS + odd_things():
            with self.assertRaises(NoNumber):
                script_events(E14, (("a", ""),), many)

    def test_new_lists(self):
        script_events(E14, (("a", ""),), 9).clear()
        self.assertEqual(len(script_events(E14, (("a", ""),), 9)), 4)

    def test_by_chance(self):
        rng = seeded(51)
        lengths = []
        for _ in range(700):
            script = random_script(rng)
            program = compiled(script)
            for _ in range(3):
                contents = random_contents(rng, script.rows, script.letters)
                found = naive.script_events(script, contents, 60)
                self.assertEqual(script_events(script, contents, 60), found)
                self.assertEqual(program_events(program, contents, 60), found)
                lengths.append(len(found))
        self.assertGreater(sum([length > 10 for length in lengths]), 500)


def nested(block):
    """How many eaches are nested in a block."""
    inner = [nested(part) for statement in block for part in statement[1:] if isinstance(part, tuple)]
    here = [1 + nested(statement[3]) for statement in block if statement[0] == "each"]
    return max(inner + here + [0])


class CompiledTest(unittest.TestCase):

    def test_parts(self):
        script = Script(3, 2, (1, 0, 1), ((("each", 1, 0, ()),), (("each", 2, 0, (("each", 0, 0, ()),)), ("over", 0))))
        program = compiled(script)
        self.assertIsInstance(program, Program)
        self.assertEqual((program.rows, program.letters, program.dealing, program.depth), (3, 2, (1, 0, 1), 2))
        self.assertEqual(Program(program.rows, program.letters, program.dealing, program.depth, program.table), program)

    def test_depths(self):
        def depth(*blocks):
            return compiled(Script(len(blocks), 1, tuple(range(len(blocks))), blocks)).depth

        def each(row, *inner):
            return ("each", row, 0, inner)

        self.assertEqual(depth(()), 1)
        self.assertEqual(depth((STOP,)), 1)
        self.assertEqual(depth((("if", 0, 0, (), ()),), ()), 1)
        self.assertEqual(depth((each(0), each(0))), 1)
        self.assertEqual(depth((each(0, each(0)), each(0))), 2)
        self.assertEqual(depth((each(0),), (each(1, each(1)),)), 2)
        self.assertEqual(depth((each(0, ("if", 0, 0, (), (each(0, each(0)),))),), (each(1, each(1)),)), 3)
        # As they are nested, also where they are never come to.
        self.assertEqual(depth((STOP, each(0, each(0)))), 2)
        self.assertEqual(depth((each(0),), (each(1, each(1)),)), 2)
        rng = seeded(52)
        for _ in range(200):
            script = random_script(rng)
            self.assertEqual(compiled(script).depth, max([1] + [nested(block) for block in script.blocks]))

    def test_never_too_many_for_small_scripts(self):
        rng = seeded(53)
        for hands in (1, 2):
            for _ in range(400):
                script = self.small_script(rng, hands)
                program = compiled(script)
                contents = random_contents(rng, script.rows, script.letters)
                self.assertEqual(program_events(program, contents, 40), naive.script_events(script, contents, 40))

    def small_script(self, rng, hands):
        """A script of so many hands and 8 statements, with one box and values to 2."""
        left = [8]

        def block(hand, deep, around, most):
            found = []
            while left[0] > 0 and len(found) < most:
                left[0] -= 1
                kind = rng.choice(["each", "each", "if", "if", "set", "say"] + ["leave"] * (around > 0) + ["over"] * (hands > 1))
                if kind == "each":
                    found.append(("each", hand, 0, block(hand, deep + 1, around + 1, rng.randint(0, 8))))
                elif kind == "if":
                    found.append(("if", 0, rng.randint(0, 2), block(hand, deep + 1, around, rng.randint(0, 4)),
                                  block(hand, deep + 1, around, rng.randint(0, 4))))
                else:
                    found.append({"set": ("set", 0, rng.randint(0, 2)), "say": ("say", rng.choice("xy")),
                                  "leave": ("leave", rng.randint(1, max(around, 1))), "over": ("over", 1 - hand)}[kind])
            return tuple(found)

        blocks = [block(hand, 1, 0, 8 if hands == 1 else 5) for hand in range(hands)]
        return Script(hands, 3, tuple(range(hands)), tuple(blocks))

    def test_too_many(self):
        # Each of three boxes comes to have any of ten values, by letters; each combination then says ten words.
        fill = tuple([("each", 0, 0, (("if", 0, 1, (("set", box, value),), ()), ("leave", 1)))
                      for box in (1, 2, 3) for value in range(10)])
        script = Script(1, 3, (0,), (fill + (("say", "x"),) * 10,))
        with self.assertRaises(TooMany) as caught:
            compiled(script)
        self.assertEqual(caught.exception.most, 20000)
        # Its events come all the same.
        self.assertEqual(script_events(script, (("cb", ""),), 99), [("look", 0, "c")] + [("say", "x")] * 10 + [STOP])
        # With two boxes it is not too many.
        self.assertEqual(program_events(compiled(Script(1, 3, (0,), (fill[:20] + (("say", "x"),) * 10,))), (("cb", ""),), 99),
                         [("look", 0, "c")] + [("say", "x")] * 10 + [STOP])
