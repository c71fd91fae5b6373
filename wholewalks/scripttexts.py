"""Texts of scripts."""

from wholewalks.checks import is_figures, is_word
from wholewalks.errors import BadText
from wholewalks.scripts import Script

NUMBERED = {"set": 2, "leave": 1, "over": 1, "each": 2, "if": 2, "hand": 1}
ALONE = ("stop", "pass", "else")


def script_text(script):
    """The text of a script."""
    hands = ",".join([str(hand) for hand in script.dealing])
    lines = [" ".join(["rows", str(script.rows), "letters", str(script.letters), "dealing", hands])]
    for hand, block in enumerate(script.blocks):
        lines.append("hand " + str(hand))
        lines.extend(block_lines(1, block))
    return "".join([line + "\n" for line in lines])


def block_lines(deep, block):
    """The lines of a block that stands so deep."""
    margin = "  " * deep
    if len(block) == 0:
        return [margin + "pass"]
    lines = []
    for statement in block:
        kind = statement[0]
        plain = [str(part) for part in statement if not isinstance(part, tuple)]
        lines.append(margin + " ".join(plain))
        if kind == "each" or kind == "if":
            lines.extend(block_lines(deep + 1, statement[3]))
        if kind == "if":
            lines.append(margin + "else")
            lines.extend(block_lines(deep + 1, statement[4]))
    return lines


class OpenBlock:
    """A block that is being read.

    head is the statement that it ends, or ("hand",), as far as it stands before the block.
    """

    def __init__(self, head, needs_else):
        self.head = head
        self.needs_else = needs_else
        self.statements = []
        self.is_pass = False

    def is_empty(self):
        """Whether no line of it was read yet."""
        return not self.is_pass and len(self.statements) == 0

    def whole(self):
        """The head with the block."""
        return self.head + (tuple(self.statements),)


class ScriptReader:
    """Reads lines, as long as each can stand where it stands; self.stack has the blocks that are open."""

    def __init__(self):
        self.header = None
        self.blocks = []
        self.stack = []

    def takes(self, line):
        """Reads a line, and tells whether it could."""
        if self.header is None:
            self.header = header_of(line)
            return self.header is not None
        blanks = len(line) - len(line.lstrip(" "))
        form = form_of(line[blanks:])
        deep = blanks // 2
        if form is None or blanks != 2 * deep or deep > len(self.stack):
            return False
        return self.closes_to(deep, form[0] == "else") and self.takes_form(deep, form)

    def closes_to(self, deep, is_else):
        """Closes all blocks further in; but one that needs an else stays open for just this."""
        while len(self.stack) > deep:
            if self.stack[-1].is_empty():
                return False
            if self.stack[-1].needs_else:
                return is_else and len(self.stack) == deep + 1
            self.close()
        return not is_else

    def close(self):
        """Closes the innermost block."""
        whole = self.stack.pop().whole()
        if whole[0] == "hand":
            self.blocks.append(whole[1])
        else:
            self.stack[-1].statements.append(whole)

    def takes_form(self, deep, form):
        """Reads a form that stands so deep, and tells whether it could."""
        if form[0] == "else":
            self.stack.append(OpenBlock(self.stack.pop().whole(), False))
            return True
        if deep == 0:
            self.stack.append(OpenBlock(("hand",), False))
            return form == ("hand", len(self.blocks))
        block = self.stack[-1]
        if form[0] == "hand" or block.is_pass:
            return False
        if form[0] == "pass":
            block.is_pass = block.is_empty()
            return block.is_pass
        if form[0] == "each" or form[0] == "if":
            self.stack.append(OpenBlock(form, form[0] == "if"))
        else:
            block.statements.append(form)
        return True

    def is_whole(self):
        """Whether nothing is lacking; all is closed then."""
        return len(self.stack) > 0 and self.closes_to(0, False)


def header_of(line):
    """The triple (rows, letters, dealing) of the first line, None if it has another form."""
    words = line.split(" ")
    if len(words) != 6 or (words[0], words[2], words[4]) != ("rows", "letters", "dealing"):
        return None
    hands = words[5].split(",")
    for figures in [words[1], words[3]] + hands:
        if not is_figures(figures):
            return None
    return (int(words[1]), int(words[3]), tuple([int(hand) for hand in hands]))


def form_of(text):
    """What a line tells, as a tuple, None if it has none of the forms."""
    words = text.split(" ")
    kind = words[0]
    if kind in ALONE and len(words) == 1:
        return (kind,)
    if kind == "say" and len(words) == 2 and is_word(words[1]):
        return ("say", words[1])
    if len(words) != NUMBERED.get(kind, 0) + 1 or kind not in NUMBERED:
        return None
    for figures in words[1:]:
        if not is_figures(figures):
            return None
    return (kind,) + tuple([int(figures) for figures in words[1:]])


def read_script(text):
    """The script of a text."""
    if not isinstance(text, str):
        raise BadText(0)
    lines = text.split("\n")
    reader = ScriptReader()
    for at in range(len(lines) - 1):
        if not reader.takes(lines[at]):
            raise BadText(at + 1)
    if lines[-1] != "" or not reader.is_whole():
        raise BadText(len(lines))
    rows, letters, dealing = reader.header
    return Script(rows, letters, dealing, tuple(reader.blocks))
