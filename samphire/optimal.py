"""Optimal samples, in which each item has an adjusted weight."""

from samphire.errors import WrongKind
from samphire.ratios import ONE, ZERO, common_denominator, less, lowest, minus, over, scaled, sum_of
from samphire.samples import check_keys, check_size


def threshold(weights, size):
    """Return the threshold of a list of fractions above 0 for a size."""
    if len(weights) <= size:
        return ZERO
    common = common_denominator(weights)
    smaller = sorted(scaled(weights, common))
    total = sum(smaller)
    places = size
    # A weight above the threshold takes a place whole, and the others share those that are left.
    while smaller[-1] * places > total:
        places -= 1
        total -= smaller.pop()
    return lowest(total, places * common)


def chance_at(weight, bar):
    """Return the lesser one of 1 and a weight divided by the threshold; 1 if the threshold is 0."""
    if less(weight, bar):
        return over(weight, bar)
    return ONE


def weights_of(things):
    """Return the list of the weights of items, as fractions."""
    return [(item[2], 1) for item in things]


def item_chances(things, size):
    """Return the list of the chances of a list of items for a size."""
    weights = weights_of(things)
    bar = threshold(weights, size)
    return [chance_at(weight, bar) for weight in weights]


def raised(pair, bar):
    """Return a pair (item, adjusted), with the threshold as adjusted weight if that is less."""
    item, adjusted = pair
    if less(adjusted, bar):
        return (item, bar)
    return pair


def one_dropped(pairs, dice):
    """Return the list of the pairs but one, which the dice pick, with their new adjusted weights."""
    bar = threshold([adjusted for item, adjusted in pairs], len(pairs) - 1)
    chances = [minus(ONE, chance_at(adjusted, bar)) for item, adjusted in pairs]
    place = dice.pick(scaled(chances, common_denominator(chances)))
    return [raised(pair, bar) for pair in pairs[:place] + pairs[place + 1:]]


class Optimal:
    """A sample of a size: at most so many pairs (item, adjusted), ascending by keys."""

    def __init__(self, size, parts):
        self.size = size
        self.parts = list(parts)
        self.kept = [item for item, adjusted in self.parts]

    @classmethod
    def empty(cls, size):
        """Return the sample of no item. Raises InvalidSize."""
        check_size(size)
        return cls(size, [])

    @classmethod
    def single(cls, item, size):
        """Return the sample of one item. Raises InvalidSize."""
        check_size(size)
        return cls(size, [(item, (item[2], 1))])

    def merge(self, other, dice):
        """Return the sample merged of this one and another one. Raises WrongKind and SharedKey."""
        if not isinstance(other, Optimal) or other.size != self.size:
            raise WrongKind()
        check_keys([self, other])
        pairs = sorted(self.parts + other.parts)
        while len(pairs) > self.size:
            pairs = one_dropped(pairs, dice)
        return Optimal(self.size, pairs)

    def adjusted_sum(self):
        """Return the sum of the adjusted weights."""
        return sum_of([adjusted for item, adjusted in self.parts])

    def view(self):
        """Return the tuple (size, tuple of the pairs)."""
        return (self.size, tuple(self.parts))
