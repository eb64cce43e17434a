"""Names, items and lists of items."""

from samphire.words import WORD_SIGNS, made_of

MOST_IN_NAME = 12
MOST_WEIGHT = 1000
MOST_AMOUNT = 1000


def is_name(text):
    """Return True if the string is a name."""
    return 1 <= len(text) <= MOST_IN_NAME and made_of(text, WORD_SIGNS)


def reason_against(row):
    """Return the first reason why the tuple is no item, or None."""
    key, group, weight, amount = row
    if not is_name(key):
        return "key"
    if not is_name(group):
        return "group"
    if not 1 <= weight <= MOST_WEIGHT:
        return "weight"
    if not -MOST_AMOUNT <= amount <= MOST_AMOUNT:
        return "amount"
    return None


def is_item(row):
    """Return True if the tuple of two strings and two integers is an item."""
    return reason_against(row) is None


def check_items(rows):
    """Return None, or the fault of a list of tuples that is no list of items."""
    taken = {}
    for place, row in enumerate(rows):
        reason = reason_against(row)
        if reason is None and row[0] in taken:
            reason = "taken"
        if reason is not None:
            return (place, reason)
        taken[row[0]] = True
    return None
