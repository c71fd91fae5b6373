"""5.3: texts of scripts."""

import unittest

from tests.things import STOP, odd_things, random_script, seeded
from wholewalks.errors import BadScript, BadText
from wholewalks.scripts import Script
from wholewalks.scripttexts import read_script, script_text

SCRIPT = Script(2, 2, (1, 0), (
    (("say", "abc"), ("set", 3, 9), ("each", 1, 2, (("if", 2, 1, (("over", 1), ("leave", 1)), ()), ("each", 1, 0, ()))), STOP),
    ()))
TEXT = """rows 2 letters 2 dealing 1,0
hand 0
  say abc
  set 3 9
  each 1 2
    if 2 1
      over 1
      leave 1
    else
      pass
    each 1 0
      pass
  stop
hand 1
  pass
"""
HEAD = "rows 1 letters 1 dealing 0\n"


class Wrong(Exception):
    """A line of a text is wrong."""


class PlainReader:
    """Reads a text as its form is told, block by block; at is the line that is due, from 0 on."""

    FORMS = {"say": "w", "set": "nn", "stop": "", "leave": "n", "over": "n", "each": "nn", "if": "nn", "else": "", "pass": "",
             "hand": "n"}

    def __init__(self, text):
        self.lines = text.split("\n")
        self.last = self.lines.pop()
        self.at = 0
        self.blocks = []

    def number(self, word):
        if not (1 <= len(word) <= 9 and set(word) <= set("0123456789") and (word == "0" or word[0] != "0")):
            raise Wrong()
        return int(word)

    def parts(self):
        """The pair (margin, parts) of the line that is due."""
        if self.at == len(self.lines):
            raise Wrong()
        line = self.lines[self.at]
        body = line.lstrip(" ")
        words = body.split(" ")
        if words[0] not in self.FORMS or len(words) != 1 + len(self.FORMS[words[0]]):
            raise Wrong()
        parts = [words[0]]
        for form, word in zip(self.FORMS[words[0]], words[1:]):
            if form == "w" and not (1 <= len(word) <= 8 and set(word) <= set("abcdefghijklmnopqrstuvwxyz")):
                raise Wrong()
            parts.append(word if form == "w" else self.number(word))
        return len(line) - len(body), parts

    def block(self, margin):
        found = []
        blanks, parts = self.parts()
        if blanks != margin:
            raise Wrong()
        if parts == ["pass"]:
            self.at += 1
            return ()
        while True:
            blanks, parts = self.parts()
            if blanks != margin or parts[0] in ("pass", "else", "hand"):
                raise Wrong()
            self.at += 1
            if parts[0] in ("each", "if"):
                parts.append(self.block(margin + 2))
            if parts[0] == "if":
                if self.parts() != (margin, ["else"]):
                    raise Wrong()
                self.at += 1
                parts.append(self.block(margin + 2))
            found.append(tuple(parts))
            if self.at == len(self.lines) or self.lines[self.at][:margin].strip(" ") != "":
                return tuple(found)
            if self.parts()[0] < margin:
                return tuple(found)

    def whole(self):
        if self.at == len(self.lines):
            raise Wrong()
        words = self.lines[0].split(" ")
        if len(words) != 6 or words[::2] != ["rows", "letters", "dealing"]:
            raise Wrong()
        parts = (self.number(words[1]), self.number(words[3]), tuple([self.number(word) for word in words[5].split(",")]))
        self.at += 1
        while not self.blocks or self.at < len(self.lines):
            if self.parts() != (0, ["hand", len(self.blocks)]):
                raise Wrong()
            self.at += 1
            self.blocks.append(self.block(2))
        if self.last != "":
            raise Wrong()
        return parts + (tuple(self.blocks),)


def plainly_read(text):
    """What a text comes to: the line that is wrong, the part that is, or the script."""
    reader = PlainReader(text)
    try:
        parts = reader.whole()
    except Wrong:
        return reader.at + 1
    try:
        return Script(*parts)
    except BadScript as bad:
        return bad.part


def read(text):
    """The same by the program."""
    try:
        return read_script(text)
    except BadText as bad:
        return bad.line
    except BadScript as bad:
        return bad.part


class ScriptTextTest(unittest.TestCase):

    def test_by_hand(self):
        self.assertEqual(script_text(SCRIPT), TEXT)
        self.assertEqual(script_text(Script(1, 3, (0,), ((),))), "rows 1 letters 3 dealing 0\nhand 0\n  pass\n")
        self.assertEqual(script_text(Script(1, 1, (0,), ((("if", 0, 0, (), (STOP,)),),))),
                         HEAD + "hand 0\n  if 0 0\n    pass\n  else\n    stop\n")

    def test_read_back(self):
        self.assertEqual(read_script(TEXT), SCRIPT)
        rng = seeded(54)
        for _ in range(600):
            script = random_script(rng)
            text = script_text(script)
            self.assertEqual(read_script(text), script)
            self.assertEqual(plainly_read(text), script)
            self.assertEqual(script_text(read_script(text)), text)

    def test_12_deep(self):
        block = ()
        for _ in range(12):
            block = (("if", 0, 0, block, block),) if len(str(block)) < 50 else (("each", 0, 0, block),)
        script = Script(1, 1, (0,), (block,))
        self.assertEqual(read_script(script_text(script)), script)
        self.assertIn("\n" + " " * 26 + "pass\n", script_text(script))


class ReadTest(unittest.TestCase):

    def bad(self, line, text):
        with self.assertRaises(BadText, msg=text) as caught:
            read_script(text)
        self.assertEqual(caught.exception.line, line, text)
        if isinstance(text, str):
            self.assertEqual(plainly_read(text), line, text)

    def bad_script(self, part, text):
        with self.assertRaises(BadScript) as caught:
            read_script(text)
        self.assertEqual(caught.exception.part, part, text)
        self.assertEqual(plainly_read(text), part, text)

    def test_no_strings(self):
        for thing in [None, 0, True, b"rows", [TEXT], (TEXT,), {TEXT: 0}, SCRIPT] + odd_things():
            if not isinstance(thing, str):
                self.bad(0, thing)

    def test_first_lines(self):
        for head in ["", " rows 1 letters 1 dealing 0", "rows 1 letters 1 dealing", "rows 1 letters 1 dealing ",
                     "rows 1 letters 1 dealing 0,", "rows 1 letters 1 dealing ,0", "rows 1 letters 1 dealing 0,,0",
                     "rows 1 letters 1 dealing 0 0", "rows 1 letters 1 dealing 0, 0", "rows 1 letters 1 dealing 0 ",
                     "rows  1 letters 1 dealing 0", "rows 01 letters 1 dealing 0", "rows 1 letters +1 dealing 0",
                     "rows 1 letters 1 dealing -0", "rows 1 letters 1 dealing 00", "rows 1000000000 letters 1 dealing 0",
                     "rows 1 letters 1 dealing 1000000000", "rows letters 1 dealing 0", "letters 1 rows 1 dealing 0",
                     "rows a letters 1 dealing 0", "rows 1 letters 1", "Rows 1 letters 1 dealing 0", "hand 0", "rows\t1 letters 1 dealing 0",
                     "rows 1 letters 1 dealing 0\t", "rows 1.0 letters 1 dealing 0"]:
            self.bad(1, head + "\nhand 0\n  pass\n")
            self.bad(1, head)
            self.bad(1, head + "\n")

    def test_forms(self):
        for line in ["", "say", "say ", "say A", "say a b", "say abcdefghi", "say a1", "say  a", "say a ", "set 0", "set 0 0 0", "set",
                     "set 0 x", "set 00 0", "set 0 +1", "set 0 -1", "set 1000000000 0", "set 0 01", "set  0 0", "stop 0", "stop ",
                     "stopp", "leave", "leave x", "leave 1 1", "leave -1", "leave 01", "leave 1 ", "over", "over 1 1", "over a",
                     "each 0", "each 0 0 0", "each 0 x", "each", "if 0", "if 0 0 0", "if", "if x 0", "else 0", "pass 0", "pas",
                     "hand", "hand x", "hand 00", "Stop", "rows 1 letters 1 dealing 0", "halt", "say\ta", "\tstop", " ", "  ", "1"]:
            for margin in ("", "  ", "    ", "      "):
                self.bad(3, HEAD + "hand 0\n" + margin + line + "\n")
                self.bad(4, HEAD + "hand 0\n  stop\n" + margin + line + "\n  stop\n")
                self.bad(5, HEAD + "hand 0\n  stop\n  each 0 0\n" + margin + line + "\n")

    def test_numbers_of_nine_and_ten_figures(self):
        self.bad_script("blocks", HEAD + "hand 0\n  set 999999999 0\n")
        self.bad(3, HEAD + "hand 0\n  set 1000000000 0\n")
        self.bad_script("rows", "rows 999999999 letters 1 dealing 0\nhand 0\n  pass\n")
        self.bad(1, "rows 1000000000 letters 1 dealing 0\nhand 0\n  pass\n")
        self.bad(2, HEAD + "hand 0000000000\n  pass\n")
        self.bad(2, HEAD + "hand 999999999\n  pass\n")

    def test_too_far_in(self):
        self.bad(2, HEAD + "  hand 0\n  pass\n")
        self.bad(3, HEAD + "hand 0\n    stop\n")
        self.bad(3, HEAD + "hand 0\n   stop\n")
        self.bad(3, HEAD + "hand 0\n stop\n")
        self.bad(4, HEAD + "hand 0\n  stop\n    stop\n")
        self.bad(4, HEAD + "hand 0\n  stop\n   stop\n")
        self.bad(4, HEAD + "hand 0\n  pass\n    stop\n")
        self.bad(4, HEAD + "hand 0\n  each 0 0\n      stop\n")
        self.bad(4, HEAD + "hand 0\n  if 0 0\n      stop\n  else\n    pass\n")
        self.bad(6, HEAD + "hand 0\n  if 0 0\n    stop\n  else\n      stop\n")

    def test_a_block_begins_with_no_line(self):
        self.bad(3, HEAD + "hand 0\nhand 1\n  pass\n")
        self.bad(3, HEAD + "hand 0\nstop\n")
        self.bad(4, HEAD + "hand 0\n  each 0 0\n  stop\n")
        self.bad(4, HEAD + "hand 0\n  each 0 0\nhand 1\n  pass\n")
        self.bad(4, HEAD + "hand 0\n  if 0 0\n  else\n    pass\n")
        self.bad(6, HEAD + "hand 0\n  if 0 0\n    pass\n  else\n  stop\n")
        self.bad(5, HEAD + "hand 0\n  each 0 0\n    each 0 0\n    stop\n")
        self.bad(5, HEAD + "hand 0\n  each 0 0\n    each 0 0\n  stop\n")

    def test_elses(self):
        self.bad(2, HEAD + "else\n  pass\n")
        self.bad(3, HEAD + "hand 0\nelse\n  pass\n")
        self.bad(3, HEAD + "hand 0\n  else\n    pass\n")
        self.bad(4, HEAD + "hand 0\n  stop\n  else\n    pass\n")
        self.bad(5, HEAD + "hand 0\n  each 0 0\n    stop\n  else\n    pass\n")
        self.bad(5, HEAD + "hand 0\n  if 0 0\n    stop\n    else\n      pass\n  else\n    pass\n")
        self.bad(5, HEAD + "hand 0\n  if 0 0\n    stop\nelse\n  pass\n")
        self.bad(7, HEAD + "hand 0\n  if 0 0\n    stop\n  else\n    stop\n  else\n    stop\n")
        self.bad(8, HEAD + "hand 0\n  if 0 0\n    stop\n  else\n    stop\n  stop\n  else\n    stop\n")
        # There is none.
        self.bad(5, HEAD + "hand 0\n  if 0 0\n    stop\n  stop\n  else\n    stop\n")
        self.bad(5, HEAD + "hand 0\n  if 0 0\n    stop\nhand 1\n  pass\n")
        self.bad(6, HEAD + "hand 0\n  each 0 0\n    if 0 0\n      stop\n  stop\n")
        self.bad(6, HEAD + "hand 0\n  each 0 0\n    if 0 0\n      stop\n  else\n    stop\n")
        self.bad(6, HEAD + "hand 0\n  if 0 0\n    if 0 0\n      stop\n  else\n    stop\n")

    def test_passes(self):
        self.bad(4, HEAD + "hand 0\n  pass\n  pass\n")
        self.bad(4, HEAD + "hand 0\n  pass\n  stop\n")
        self.bad(4, HEAD + "hand 0\n  stop\n  pass\n")
        self.bad(5, HEAD + "hand 0\n  each 0 0\n    pass\n    if 0 0\n      pass\n")
        self.bad(5, HEAD + "hand 0\n  each 0 0\n    stop\n    pass\n")
        self.bad(7, HEAD + "hand 0\n  each 0 0\n    each 0 0\n      pass\n    stop\n    pass\n")
        self.bad(3, HEAD + "hand 0\npass\n")
        self.bad(2, HEAD + "pass\n")

    def test_hands(self):
        self.bad(2, HEAD + "hand 1\n  pass\n")
        self.bad(4, HEAD + "hand 0\n  pass\nhand 0\n  pass\n")
        self.bad(4, HEAD + "hand 0\n  pass\nhand 2\n  pass\n")
        self.bad(4, HEAD + "hand 0\n  stop\n  hand 1\n    pass\n")
        self.bad(4, HEAD + "hand 0\n  stop\n  hand 1\n  pass\n")
        self.bad(4, HEAD + "hand 0\n  stop\nstop\n")
        self.bad(2, HEAD + "stop\n")
        self.bad(2, HEAD + HEAD + "hand 0\n  pass\n")

    def test_something_is_lacking(self):
        self.bad(1, "")
        self.bad(2, HEAD)
        self.bad(3, HEAD + "hand 0\n")
        self.bad(4, HEAD + "hand 0\n  each 0 0\n")
        self.bad(4, HEAD + "hand 0\n  if 0 0\n")
        self.bad(5, HEAD + "hand 0\n  if 0 0\n    stop\n")
        self.bad(6, HEAD + "hand 0\n  if 0 0\n    stop\n  else\n")
        self.bad(7, HEAD + "hand 0\n  each 0 0\n    if 0 0\n      stop\n      stop\n")
        lines = TEXT.split("\n")[:-1]
        for many in range(len(lines)):
            text = "".join([line + "\n" for line in lines[:many]])
            self.assertEqual(read(text), plainly_read(text), text)

    def test_something_stands_behind_the_last_line_feed(self):
        self.bad(1, HEAD[:-1])
        self.bad(3, HEAD + "hand 0\n  pass")
        self.bad(4, HEAD + "hand 0\n  pass\n ")
        self.bad(4, HEAD + "hand 0\n  pass\nhand 1")
        self.bad(16, TEXT + "x")
        self.bad(15, TEXT[:-1])
        # An earlier line that is wrong comes first.
        self.bad(3, HEAD + "hand 0\n  pas\n  stop")
        # A line feed more is a line without a form.
        self.bad(16, TEXT + "\n")
        self.bad(1, "\n" + TEXT)

    def test_bad_scripts(self):
        body = "hand 0\n  pass\n"
        self.bad_script("rows", "rows 0 letters 0 dealing 9\n" + body)
        self.bad_script("rows", "rows 7 letters 1 dealing 0\n" + body)
        self.bad_script("letters", "rows 1 letters 4 dealing 9\n" + body)
        self.bad_script("dealing", "rows 1 letters 1 dealing 1\n" + body)
        self.bad_script("dealing", "rows 1 letters 1 dealing 0,0\n" + body)
        self.bad_script("dealing", "rows 2 letters 1 dealing 0\n" + body)
        self.bad_script("dealing", "rows 3 letters 1 dealing 0,2,0\n" + body)
        self.bad_script("blocks", HEAD + "hand 0\n  pass\nhand 1\n  pass\n")
        self.bad_script("blocks", "rows 2 letters 1 dealing 0,1\n" + body)
        for line in ["set 4 0", "set 0 10", "leave 1", "leave 0", "over 0", "over 1"]:
            self.bad_script("blocks", HEAD + "hand 0\n  " + line + "\n")
        self.bad_script("blocks", HEAD + "hand 0\n  each 1 0\n    pass\n")
        self.bad_script("blocks", HEAD + "hand 0\n  each 0 4\n    pass\n")
        self.bad_script("blocks", HEAD + "hand 0\n  each 0 0\n    leave 2\n")
        self.bad_script("blocks", HEAD + "hand 0\n  if 4 0\n    pass\n  else\n    pass\n")
        self.bad_script("blocks", HEAD + "hand 0\n  if 0 10\n    pass\n  else\n    pass\n")
        # A text that cannot be read comes first.
        self.bad(4, "rows 0 letters 0 dealing 9\nhand 0\n  pass\nx\n")

    def test_sizes(self):
        self.assertEqual(len(read_script(HEAD + "hand 0\n" + "  stop\n" * 200).blocks[0]), 200)
        self.bad_script("blocks", HEAD + "hand 0\n" + "  stop\n" * 201)
        for deep in (12, 13, 100, 3000):
            lines = ["  " * (at + 1) + "each 0 0\n" for at in range(deep)]
            text = HEAD + "hand 0\n" + "".join(lines) + "  " * (deep + 1) + "pass\n"
            if deep == 12:
                self.assertEqual(script_text(read_script(text)), text)
            else:
                with self.assertRaises(BadScript) as caught:
                    read_script(text)
                self.assertEqual(caught.exception.part, "blocks")
                with self.assertRaises(BadText) as caught:
                    read_script(text + "x\n")
                self.assertEqual(caught.exception.line, deep + 4)

    def test_changed_by_chance(self):
        rng = seeded(55)
        lines_met, parts_met, scripts_met = set(), set(), 0
        some = ["  stop", "stop", "    stop", "else", "  else", "  pass", "    pass", "hand 1", "hand 0", "  each 0 0", "  if 0 0", ""]
        for number in range(6000):
            lines = script_text(random_script(rng, most=3)).split("\n")
            for _ in range(rng.randint(1, 2)):
                at = rng.randrange(len(lines))
                kind = rng.randrange(7)
                if kind == 0:
                    del lines[at]
                elif kind == 1:
                    lines.insert(at, rng.choice(lines))
                elif kind == 2:
                    lines[at] = "  " + lines[at]
                elif kind == 3:
                    lines[at] = lines[at][2:]
                elif kind == 4:
                    lines.insert(at, rng.choice(some))
                elif kind == 5 and lines[at]:
                    spot = rng.randrange(len(lines[at]))
                    lines[at] = lines[at][:spot] + rng.choice(["0", "1", " ", "x", ",", "\t", "9", ""]) + lines[at][spot + 1:]
                else:
                    other = rng.randrange(len(lines))
                    lines[at], lines[other] = lines[other], lines[at]
                lines = lines or [""]
            text = "\n".join(lines)
            found = read(text)
            self.assertEqual(found, plainly_read(text), text)
            if isinstance(found, int):
                lines_met.add(found)
            elif isinstance(found, str):
                parts_met.add(found)
            else:
                scripts_met += 1
        self.assertGreater(len(lines_met), 12)
        self.assertLessEqual({"dealing", "blocks"}, parts_met)
        self.assertGreater(scripts_met, 300)
