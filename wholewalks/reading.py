"""Contents, plans, programs and questions read from their texts."""

from wholewalks.checks import LETTERS, is_figures, is_lettered, is_word
from wholewalks.errors import BadText
from wholewalks.plans import Plan
from wholewalks.programs import Program
from wholewalks.questions import Question


def read_content(text):
    """The content of a text."""
    if not isinstance(text, str):
        raise BadText(0)
    content = content_of(text)
    if content is None:
        raise BadText(1)
    return content


def content_of(text):
    """The content that a string is the text of, None if it is none."""
    if text == "-":
        return ("", "")
    head = text
    ring = ""
    if text.endswith(")") and "(" in text:
        at = text.index("(")
        head = text[:at]
        ring = text[at + 1:-1]
    if not is_lettered(len(LETTERS), head) or not is_lettered(len(LETTERS), ring):
        return None
    if ring == "" and (head == "" or head != text):
        return None
    return (head, ring)


def numbers_of(words):
    """The numbers that words are, None if one is none."""
    for word in words:
        if not is_figures(word):
            return None
    return tuple([int(word) for word in words])


def head_of(kind, words):
    """The pair of numbers of a first line of two numbers, None if it has another form."""
    if len(words) != 3 or words[0] != kind:
        return None
    return numbers_of(words[1:])


def plan_head(words):
    """The rows and letters of the first line of a plan, None if it has another form."""
    return head_of("plan", words)


def question_head(words):
    """The rows and letters of the first line of a question, None if it has another form."""
    return head_of("question", words)


def program_head(words):
    """The rows, letters, dealing and depth of the first line of a program, None if it has another form."""
    if len(words) != 5 or words[0] != "program":
        return None
    counts = numbers_of(words[1:3])
    dealing = numbers_of(words[3].split(","))
    depth = (None,)
    if words[4] != "none":
        depth = numbers_of(words[4:])
    if counts is None or dealing is None or depth is None:
        return None
    return counts + (dealing,) + depth


def plain_item(words):
    """The say or the stop that a line tells, None if it tells neither."""
    if words == ["stop"]:
        return ("stop",)
    if len(words) == 3 and words[0] == "say" and is_word(words[1]) and is_figures(words[2]):
        return ("say", words[1], int(words[2]))
    return None


def looking_item(kinds, words):
    """The item of one of these kinds, with nexts, that a line tells, None if it tells none."""
    numbers = numbers_of(words[1:])
    if words[0] not in kinds or numbers is None or len(numbers) < 2:
        return None
    return (words[0], numbers[0], numbers[1:])


def plan_item(words):
    """The standing of a plan that a line tells, None if it tells none."""
    return plain_item(words) or looking_item(("look",), words)


def program_item(words):
    """The standing of a program that a line tells, None if it tells none."""
    numbers = numbers_of(words[1:])
    if words[0] == "leave" and numbers is not None and len(numbers) == 2:
        return ("leave",) + numbers
    return plain_item(words) or looking_item(("begin", "on"), words)


def question_item(words):
    """The standing of a question that a line tells, None if it tells none."""
    numbers = numbers_of(words[1:])
    if words[0] not in ("yes", "no") or numbers is None or len(numbers) == 0:
        return None
    return (words[0] == "yes", numbers)


def forms_of(text, head, item):
    """What the lines of a text tell, the first one as the function head has it, the others as item has them."""
    if not isinstance(text, str):
        raise BadText(0)
    lines = text.split("\n")
    forms = []
    for at in range(len(lines) - 1):
        words = lines[at].split(" ")
        if at == 0:
            form = head(words)
        else:
            form = item(words)
        if form is None:
            raise BadText(at + 1)
        forms.append(form)
    if lines[-1] != "" or len(forms) < 2:
        raise BadText(len(lines))
    return forms


def read_plan(text):
    """The plan of a text."""
    forms = forms_of(text, plan_head, plan_item)
    rows, letters = forms[0]
    return Plan(rows, letters, tuple(forms[1:]))


def read_program(text):
    """The program of a text."""
    forms = forms_of(text, program_head, program_item)
    rows, letters, dealing, depth = forms[0]
    return Program(rows, letters, dealing, depth, tuple(forms[1:]))


def read_question(text):
    """The question of a text."""
    forms = forms_of(text, question_head, question_item)
    rows, letters = forms[0]
    return Question(rows, letters, tuple(forms[1:]))
