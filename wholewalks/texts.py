"""Texts of contents, plans, programs and questions."""

from wholewalks.contents import need_content


def content_text(content):
    """The text of a content."""
    need_content(content)
    head, ring = content
    if ring != "":
        return head + "(" + ring + ")"
    if head == "":
        return "-"
    return head


def text_of(lines):
    """The text that has these lines, each one a list of words and numbers."""
    return "".join([" ".join([str(word) for word in words]) + "\n" for words in lines])


def item_words(item):
    """The words of the line of a standing of a plan or a program."""
    words = []
    for part in item:
        if isinstance(part, tuple):
            words.extend(part)
        else:
            words.append(part)
    return words


def plan_text(plan):
    """The text of a plan."""
    return text_of([["plan", plan.rows, plan.letters]] + [item_words(item) for item in plan.table])


def program_text(program):
    """The text of a program."""
    hands = ",".join([str(hand) for hand in program.dealing])
    depth = program.depth
    if depth is None:
        depth = "none"
    head = ["program", program.rows, program.letters, hands, depth]
    return text_of([head] + [item_words(item) for item in program.table])


def question_text(question):
    """The text of a question."""
    lines = [["question", question.rows, question.letters]]
    for flag, nexts in question.table:
        lines.append(["yes" if flag else "no"] + list(nexts))
    return text_of(lines)
