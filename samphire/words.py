"""How texts are cut into lines and words, and which words are integers."""

DIGITS = "0123456789"
WORD_SIGNS = "abcdefghijklmnopqrstuvwxyz0123456789"


def made_of(text, signs):
    """Return True if each character of the text is one of the signs."""
    for sign in text:
        if sign not in signs:
            return False
    return True


def lines_of(text):
    """Return the list of the lines; nothing behind the last newline is no line."""
    lines = text.split("\n")
    if lines[-1] == "":
        lines.pop()
    return lines


def words_of(line):
    """Return the list of what stands between single spaces."""
    return line.split(" ")


def column_of(words, place):
    """Return the column, from 1, at which the word with this number, from 0, begins."""
    return 1 + sum([len(word) + 1 for word in words[:place]])


def writes_integer(word):
    """Return True if the word is an integer, written as it must be."""
    if word == "0":
        return True
    digits = word
    if word.startswith("-"):
        digits = word[1:]
    return digits != "" and digits[0] != "0" and made_of(digits, DIGITS)


def integer_within(word, low, high):
    """Return the integer from low to high that the word writes, or None if it writes none."""
    # Python itself refuses to read integers of several thousand digits.
    if len(word) > max(len(str(low)), len(str(high))) or not writes_integer(word):
        return None
    number = int(word)
    if low <= number <= high:
        return number
    return None
