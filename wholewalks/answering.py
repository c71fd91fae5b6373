"""Programs that say yes or no to words, and words on which they do not say what is asked."""

from wholewalks.checks import is_between
from wholewalks.errors import NoNumber, OtherQuestion
from wholewalks.halves import Halves
from wholewalks.partings import finest_within
from wholewalks.profiles import Profiles
from wholewalks.programs import MOST_STANDINGS, Program
from wholewalks.questions import Question, answer, need_words
from wholewalks.rests import Rests
from wholewalks.sortings import Sorting
from wholewalks.states import States, table_of
from wholewalks.walking import ENDS, Walking, watch_over
from wholewalks.wordlists import words_of_letters

MOST_LETTERS = 8
STOP = ("stop",)
SAID = {"yes": True, "no": False}


def said(program, words):
    """What a program says on words of all rows: True for yes, False for no, None if it is neither."""
    need_words(program, program.rows, words)
    walking = Walking(program, tuple([(word, "") for word in words]), False)
    watch = watch_over(walking)
    last = None
    while True:
        event = walking.deed()
        if event == STOP:
            return SAID.get(last)
        if event is not None and event[0] == "say":
            last = event[1]
        elif event is not None and event[0] in ENDS:
            return None
        if watch.is_round():
            return None


class Asker:
    """The standings of a program that walks one row behind another, and says the answer at last.

    A state is a pair (words, standing): words of the rows that were walked, which
    stand for all of their sort, and the standing of the sorter of the row that is
    walked, None ahead of its first sign. At last it is a flag, which is said, or None.
    """

    def __init__(self, question):
        self.question = question
        self.machines = []
        self.words = []
        self.rests = []
        self.known = []
        for row in range(question.rows):
            profiles = Profiles(Halves(question, (row,)), MOST_STANDINGS)
            self.machines.append(Sorting(profiles, MOST_STANDINGS).machine())
            self.words.append([some[0] for some in profiles.some_words(len(profiles.sorts))])
            if row > 0:
                self.rests.append(Rests(Halves(question, tuple(range(row)))))
                self.known.append({})
        self.states = States()
        self.states.number(((), None))

    def item(self, number):
        """What a state does."""
        state = self.states.known[number]
        if state is None:
            return STOP
        if isinstance(state, bool):
            return ("say", "yes" if state else "no", self.states.number(None))
        words, standing = state
        nexts, numbers = self.machines[len(words)]
        if standing is None:
            return ("begin", len(words), self.targets(words, nexts[0], numbers[0]))
        return ("on", 0, self.targets(words, nexts[standing], numbers[standing]))

    def targets(self, words, nexts, number):
        """Where a look leads, by each letter and by the end, behind which the row has this number."""
        found = [self.states.number((words, standing)) for standing in nexts]
        found.append(self.states.number(self.behind(words + (self.words[len(words)][number],))))
        return tuple(found)

    def behind(self, words):
        """The state behind words of some of the rows."""
        if len(words) == self.question.rows:
            return answer(self.question, words)
        rests = self.rests[len(words) - 1]
        rest = rests.of_words(words)
        return (self.known[len(words) - 1].setdefault(rest, words), None)


def answering(question):
    """A program of one hand that says the answer on all words, None if there is none."""
    if len(finest_within(question, MOST_STANDINGS)) < question.rows:
        return None
    table = table_of(Asker(question))
    return Program(question.rows, question.letters, (0,) * question.rows, 1, table)


def wrong_words(question, program, most):
    """The words with the fewest letters, the least of these, on which a program does not say the answer, or None."""
    need_program_for_question(question, program)
    if not is_between(0, MOST_LETTERS, most):
        raise NoNumber()
    for many in range(most + 1):
        for words in words_of_letters(question.rows, question.letters, many):
            if said(program, words) != answer(question, words):
                return words
    return None


def need_program_for_question(question, program):
    """Raises OtherQuestion unless both are what they are called, with as many rows and letters."""
    if not isinstance(question, Question) or not isinstance(program, Program):
        raise OtherQuestion()
    if question.rows != program.rows or question.letters != program.letters:
        raise OtherQuestion()
