"""The tokens and the grammar of written conditions."""

from samphire.errors import TextError
from samphire.things import is_name
from samphire.words import WORD_SIGNS, integer_within, writes_integer

COMPARING = ("<", "<=", "=", ">=", ">")
ATOM_WORDS = ("all", "weight", "amount", "group", "key")
MOST_OPEN = 20
MOST_NUMBER = 1000000


def token_end(text, start):
    """Return the place behind the token that begins at a place, or None if none begins there."""
    end = start
    while end < len(text) and text[end] in WORD_SIGNS:
        end += 1
    if end > start:
        return end
    if text[start:start + 2] in ("<=", ">="):
        return start + 2
    if text[start] in "<=>-()":
        return start + 1
    return None


def tokens_of(text):
    """Return the list of the pairs (token, column). Raises TextError."""
    found = []
    at = 0
    while at < len(text):
        if text[at] == " ":
            at += 1
        else:
            end = token_end(text, at)
            if end is None:
                raise TextError(1, at + 1, "character")
            found.append((text[at:end], at + 1))
            at = end
    return found


class ConditionReader:
    """Reads the tokens of one text from left to right."""

    def __init__(self, text):
        self._tokens = tokens_of(text)
        self._behind = len(text) + 1
        self._at = 0
        self._depth = 0

    def whole(self):
        """Return the condition that the whole text writes. Raises TextError."""
        condition = self._either()
        if self._at < len(self._tokens):
            self._refuse("expected")
        return condition

    def _here(self):
        """Return the next token; behind the last one the empty string, which is no token."""
        if self._at < len(self._tokens):
            return self._tokens[self._at][0]
        return ""

    def _refuse(self, reason):
        """Raise the error for the next token, or for what is due behind the text."""
        column = self._behind
        if self._at < len(self._tokens):
            column = self._tokens[self._at][1]
        raise TextError(1, column, reason)

    def _take(self, can_stand):
        """Return the next token and go on behind it; refuse it if it cannot stand there."""
        if not can_stand:
            self._refuse("expected")
        word = self._here()
        self._at += 1
        return word

    def _go_in(self):
        """Go on behind a bracket or a `not` that is open from now on."""
        if self._depth == MOST_OPEN:
            self._refuse("deep")
        self._depth += 1
        self._at += 1

    def _either(self):
        """Read an OR of the grammar."""
        condition = self._both()
        while self._here() == "or":
            self._at += 1
            condition = ("or", condition, self._both())
        return condition

    def _both(self):
        """Read an AND of the grammar."""
        condition = self._turned()
        while self._here() == "and":
            self._at += 1
            condition = ("and", condition, self._turned())
        return condition

    def _turned(self):
        """Read a NOT of the grammar."""
        if self._here() != "not":
            return self._atom()
        self._go_in()
        condition = self._turned()
        self._depth -= 1
        return ("not", condition)

    def _atom(self):
        """Read an ATOM of the grammar."""
        if self._here() == "(":
            return self._bracket()
        word = self._take(self._here() in ATOM_WORDS)
        if word == "all":
            return ("all",)
        if word in ("group", "key"):
            return (word, self._take(is_name(self._here())))
        sign = self._take(self._here() in COMPARING)
        return (word, sign, self._number())

    def _bracket(self):
        """Read a condition within brackets."""
        self._go_in()
        condition = self._either()
        self._take(self._here() == ")")
        self._depth -= 1
        return condition

    def _number(self):
        """Read an INT of the grammar."""
        below = self._here() == "-"
        if below:
            self._at += 1
        word = self._here()
        if not writes_integer(word) or (below and word == "0"):
            self._refuse("expected")
        number = integer_within(word, 0, MOST_NUMBER)
        if number is None:
            self._refuse("range")
        self._at += 1
        if below:
            return -number
        return number
