"""How a desk writes fractions and places, and reads integers."""

from samphire.words import integer_within

MOST_INTEGER = 999999999


def fraction_word(number):
    """Return the word of a fraction, or of None."""
    if number is None:
        return "-"
    p, q = number
    if q == 1:
        return str(p)
    return f"{p}/{q}"


def integer_of(word):
    """Return the integer that a word writes, or None."""
    return integer_within(word, -MOST_INTEGER, MOST_INTEGER)


def place_word(place):
    """Return the word of a place: the group, or `others` for None."""
    if place is None:
        return "others"
    return place
