"""Desks, which obey lines and keep a journal of those that changed something."""

from samphire.asking import QUESTIONS, answered
from samphire.changing import changed
from samphire.errors import InvalidLine
from samphire.state import Refused, State
from samphire.words import words_of

MOST_CHARACTERS = 300

# The least and the greatest number of words; a line has at most 301.
WORD_COUNTS = {
    "rule": (4, 4),
    "others": (3, 3),
    "seed": (2, 2),
    "tape": (2, 301),
    "node": (2, 2),
    "put": (6, 6),
    "merge": (3, 3),
    "undo": (1, 1),
    "ask": (4, 301),
    "exact": (2, 2),
    "kept": (2, 2),
    "differ": (3, 3),
    "nodes": (1, 1),
    "price": (3, 62),
}


def is_line(text):
    """Return True if the string is a line that a desk can be given."""
    for sign in text:
        if not " " <= sign <= "~":
            return False
    return len(text) <= MOST_CHARACTERS


def check_words(words):
    """Raise Refused unless the first word is one that a desk knows, with as many words as it needs."""
    if words[0] not in WORD_COUNTS:
        raise Refused("word")
    fewest, most = WORD_COUNTS[words[0]]
    if not fewest <= len(words) <= most:
        raise Refused("count")


class Desk:
    """A desk: it obeys lines, and answers each with a list of lines."""

    def __init__(self):
        self._state = State()
        self._journal = []

    def obey(self, line):
        """Return the answer to a line. Raises InvalidLine."""
        if not is_line(line):
            raise InvalidLine(line)
        words = words_of(line)
        try:
            check_words(words)
            return self._answer(line, words)
        except Refused as refusal:
            return [f"refused {refusal.reason}"]

    def journal(self):
        """Return the list of the lines that changed something and were not undone."""
        return list(self._journal)

    def _answer(self, line, words):
        """Return the answer to a line with as many words as it needs. Raises Refused."""
        if words[0] == "undo":
            return self._undo()
        if words[0] in QUESTIONS:
            return answered(self._state, words)
        answer = changed(self._state, words)
        self._journal.append(line)
        return answer

    def _undo(self):
        """Return the answer to `undo`. Raises Refused."""
        if not self._journal:
            raise Refused("nothing")
        line = self._journal.pop()
        # Dice do not go back, so all that the desk keeps is made anew.
        self._state = State()
        for earlier in self._journal:
            changed(self._state, words_of(earlier))
        return [f"undone {line}"]


def answers_of(lines):
    """Return the list of the answers of a new desk to the lines, in order."""
    desk = Desk()
    return [desk.obey(line) for line in lines]
