"""Conditions: when they hold, how they are read and how they are written.

Conditions that callers make may be nested to any depth, so nothing here recurs into them.
"""

from samphire.errors import TooLarge
from samphire.grammar import ConditionReader

MOST_CHARACTERS = 2000


def parse_condition(text):
    """Return the condition that the text writes. Raises TooLarge and TextError."""
    if len(text) > MOST_CHARACTERS:
        raise TooLarge("text")
    reader = ConditionReader(text)
    return reader.whole()


def parts_first(condition):
    """Return the list of the condition and all within it, each behind its own parts."""
    found = []
    waiting = [condition]
    while waiting:
        part = waiting.pop()
        found.append(part)
        if part[0] in ("not", "and", "or"):
            waiting.extend(part[1:])
    return found[::-1]


def compares(number, sign, other):
    """Return True if the number stands to the other as the sign says."""
    if sign == "<":
        return number < other
    if sign == "<=":
        return number <= other
    if sign == "=":
        return number == other
    if sign == ">=":
        return number >= other
    return number > other


def atom_holds(atom, item):
    """Return True if a condition without parts holds for the item."""
    key, group, weight, amount = item
    word = atom[0]
    if word == "key":
        return key == atom[1]
    if word == "group":
        return group == atom[1]
    if word == "weight":
        return compares(weight, atom[1], atom[2])
    if word == "amount":
        return compares(amount, atom[1], atom[2])
    return True


def last_holds(conditions, item):
    """Return True if the last one of conditions, each behind its parts, holds for the item."""
    results = []
    for condition in conditions:
        word = condition[0]
        if word == "not":
            results.append(not results.pop())
        elif word in ("and", "or"):
            second = results.pop()
            first = results.pop()
            if word == "and":
                results.append(first and second)
            else:
                results.append(first or second)
        else:
            results.append(atom_holds(condition, item))
    return results[0]


def held(condition, item):
    """Return True if the condition holds for the item."""
    return last_holds(parts_first(condition), item)


def held_items(condition, rows):
    """Return the list of the items for which the condition holds, in order."""
    conditions = parts_first(condition)
    return [item for item in rows if last_holds(conditions, item)]


def within(condition, words):
    """Return a list with the condition, in brackets if it begins with one of the words."""
    if condition[0] in words:
        return ["(", condition, ")"]
    return [condition]


def pieces_of(condition):
    """Return the written form as a list of strings and of conditions still to be written."""
    word = condition[0]
    if word == "all":
        return ["all"]
    if word in ("group", "key"):
        return [f"{word} {condition[1]}"]
    if word in ("weight", "amount"):
        return [f"{word} {condition[1]} {condition[2]}"]
    if word == "not":
        return ["not "] + within(condition[1], ("and", "or"))
    if word == "and":
        return within(condition[1], ("or",)) + [" and "] + within(condition[2], ("and", "or"))
    return [condition[1], " or "] + within(condition[2], ("or",))


def write_condition(condition):
    """Return the written form, with no more brackets than it needs."""
    written = []
    waiting = [condition]
    while waiting:
        piece = waiting.pop()
        if isinstance(piece, str):
            written.append(piece)
        else:
            waiting.extend(pieces_of(piece)[::-1])
    return "".join(written)
