"""The reading of items from a text."""

from samphire.errors import TextError, TooLarge
from samphire.things import MOST_AMOUNT, MOST_WEIGHT, is_name
from samphire.words import column_of, integer_within, lines_of, words_of

MOST_CHARACTERS = 100000
MOST_LINES = 1000
WORDS_OF_ITEM = 4


def word_fault(words):
    """Return (number of the word, reason) for the first of four words that is wrong, or None."""
    key, group, weight, amount = words
    if not is_name(key):
        return (0, "key")
    if not is_name(group):
        return (1, "group")
    if integer_within(weight, 1, MOST_WEIGHT) is None:
        return (2, "weight")
    if integer_within(amount, -MOST_AMOUNT, MOST_AMOUNT) is None:
        return (3, "amount")
    return None


def item_of(words):
    """Return the item of four words that are right."""
    key, group, weight, amount = words
    return (key, group, int(weight), int(amount))


def line_fault(words, number, taken):
    """Return (column, reason) for the first thing that is wrong with a line, or None."""
    if len(words) != WORDS_OF_ITEM:
        return (1, "count")
    fault = word_fault(words)
    if fault is not None:
        place, reason = fault
        return (column_of(words, place), reason)
    if words[0] in taken:
        return (1, "taken")
    if number > MOST_LINES:
        return (1, "many")
    return None


def read_items(text):
    """Return the list of the items in a text. Raises TooLarge and TextError."""
    if len(text) > MOST_CHARACTERS:
        raise TooLarge("text")
    rows = []
    taken = {}
    for number, line in enumerate(lines_of(text), start=1):
        words = words_of(line)
        fault = line_fault(words, number, taken)
        if fault is not None:
            column, reason = fault
            raise TextError(number, column, reason)
        taken[words[0]] = True
        rows.append(item_of(words))
    return rows
