"""Weighted samples, drawn one item after the other by weight."""

from itertools import permutations

from samphire.errors import WrongKind
from samphire.laws import law_from
from samphire.ratios import ONE, lowest, sum_of, times
from samphire.samples import check_keys, check_size, weight_of


class Weighted:
    """A sample of a size: the total of all weights, and the list of the items kept, in the order of drawing."""

    def __init__(self, size, total, kept):
        self.size = size
        self.total = total
        self.kept = list(kept)

    @classmethod
    def empty(cls, size):
        """Return the sample of no item. Raises InvalidSize."""
        check_size(size)
        return cls(size, 0, [])

    @classmethod
    def single(cls, item, size):
        """Return the sample of one item. Raises InvalidSize."""
        check_size(size)
        return cls(size, item[2], [item])

    def merge(self, other, dice):
        """Return the sample merged of this one and another one. Raises WrongKind and SharedKey."""
        check_merge(self, other)
        left = [self.total, other.total]
        waiting = [list(self.kept), list(other.kept)]
        drawn = []
        while len(drawn) < self.size and sum(left) > 0:
            side = dice.pick(list(left))
            item = waiting[side].pop(0)
            left[side] -= item[2]
            drawn.append(item)
        return Weighted(self.size, self.total + other.total, drawn)

    def view(self):
        """Return the tuple (size, total, tuple of the kept items)."""
        return (self.size, self.total, tuple(self.kept))


def check_merge(first, second):
    """Raise WrongKind or SharedKey if a weighted sample cannot be merged with another one."""
    if not isinstance(second, Weighted) or second.size != first.size:
        raise WrongKind()
    check_keys([first, second])


def orders_of(things, many):
    """Return the list of all orders of so many of the things, each as a list."""
    return [list(order) for order in permutations(things, many)]


def order_chance(total, kept):
    """Return the chance of the order of a list of items, given the total of all weights."""
    chance = ONE
    left = total
    for item in kept:
        chance = times(chance, lowest(item[2], left))
        left -= item[2]
    return chance


def set_chance(total, kept):
    """Return the chance of the set of a list of items, given the total of all weights."""
    return sum_of([order_chance(total, order) for order in orders_of(kept, len(kept))])


def weighted_law(things, size):
    """Return the plain law of a list of items."""
    total = weight_of(things)
    orders = orders_of(things, min(size, len(things)))
    return law_from([((size, total, tuple(order)), order_chance(total, order)) for order in orders])


def drawn_next(first, second, way):
    """Return the ways that one more item drawn makes of a way to merge two samples.

    A way has the tuple of the items drawn, the number of those from the first sample, and its chance.
    """
    drawn, many, chance = way
    other = len(drawn) - many
    left = first.total - weight_of(first.kept[:many])
    other_left = second.total - weight_of(second.kept[:other])
    ways = []
    if left > 0:
        share = lowest(left, left + other_left)
        ways.append((drawn + (first.kept[many],), many + 1, times(chance, share)))
    if other_left > 0:
        share = lowest(other_left, left + other_left)
        ways.append((drawn + (second.kept[other],), many, times(chance, share)))
    return ways


def weighted_merge(first, second):
    """Return the law of the view of two samples merged with fair dice. Raises as their merge does."""
    check_merge(first, second)
    ways = [((), 0, ONE)]
    # If a sample stands for more than it keeps, it keeps as many items as its size, so no step lacks an item.
    for _ in range(min(first.size, len(first.kept) + len(second.kept))):
        ways = [further for way in ways for further in drawn_next(first, second, way)]
    total = first.total + second.total
    return law_from([((first.size, total, drawn), chance) for drawn, many, chance in ways])
