"""Dice: objects that pick a number by weights."""

SEEDS = 2147483646
FACTOR = 48271
PRIME = 2147483647


def number_at(weights, place):
    """Return the number at an integer from 0 to the sum of the weights less 1."""
    number = 0
    left = place
    while left >= weights[number]:
        left -= weights[number]
        number += 1
    return number


class Tape:
    """Dice that take the integers of a list one after the other, and 0 behind the last one."""

    def __init__(self, numbers):
        self._numbers = list(numbers)
        self._picks = 0

    def pick(self, weights):
        """Return the number of one of the weights that is not 0."""
        place = 0
        if self._picks < len(self._numbers):
            place = self._numbers[self._picks]
        picked = number_at(weights, place % sum(weights))
        self._picks += 1
        return picked

    def used(self):
        """Return how many picks were made."""
        return self._picks


class Mixer:
    """Dice that work out their picks from a seed."""

    def __init__(self, seed):
        self._state = seed % SEEDS + 1

    def pick(self, weights):
        """Return the number of one of the weights that is not 0."""
        first = self._state * FACTOR % PRIME
        second = first * FACTOR % PRIME
        self._state = second
        return number_at(weights, (first * PRIME + second) % sum(weights))
