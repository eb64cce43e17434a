"""Uniform samples, in which all items are alike."""

from itertools import combinations
from math import comb

from samphire.errors import WrongKind
from samphire.laws import law_from
from samphire.ratios import ONE, lowest
from samphire.samples import check_keys, check_size


class Uniform:
    """A sample of a size: how many items it has seen, and the list of those that it keeps, ascending by keys."""

    def __init__(self, size, seen, kept):
        self.size = size
        self.seen = seen
        self.kept = list(kept)

    @classmethod
    def empty(cls, size):
        """Return the sample that has seen no item. Raises InvalidSize."""
        check_size(size)
        return cls(size, 0, [])

    @classmethod
    def single(cls, item, size):
        """Return the sample that has seen one item. Raises InvalidSize."""
        check_size(size)
        return cls(size, 1, [item])

    def merge(self, other, dice):
        """Return the sample merged of this one and another one. Raises WrongKind and SharedKey."""
        check_merge(self, other)
        seen = self.seen + other.seen
        left = [self.seen, other.seen]
        waiting = [sorted(self.kept), sorted(other.kept)]
        drawn = []
        for _ in range(min(self.size, seen)):
            side = dice.pick(list(left))
            place = dice.pick([1] * len(waiting[side]))
            drawn.append(waiting[side].pop(place))
            left[side] -= 1
        return Uniform(self.size, seen, sorted(drawn))

    def view(self):
        """Return the tuple (size, seen, tuple of the kept items)."""
        return (self.size, self.seen, tuple(self.kept))


def check_merge(first, second):
    """Raise WrongKind or SharedKey if a uniform sample cannot be merged with another one."""
    if not isinstance(second, Uniform) or second.size != first.size:
        raise WrongKind()
    check_keys([first, second])


def sets_of(things, many):
    """Return the list of all sets of so many of the things, each as a list."""
    return [list(chosen) for chosen in combinations(things, many)]


def uniform_law(things, size):
    """Return the plain law of a list of items."""
    kept = min(size, len(things))
    chance = lowest(1, comb(len(things), kept))
    views = [(size, len(things), tuple(sorted(chosen))) for chosen in sets_of(things, kept)]
    return law_from([(view, chance) for view in views])


def rows_with(first, second, steps, many):
    """Return the pairs (view, chance) of the merges in which so many of all items drawn come from the first one."""
    other = steps - many
    seen = first.seen + second.seen
    sets = sets_of(first.kept, many)
    other_sets = sets_of(second.kept, other)
    ways = comb(first.seen, many) * comb(second.seen, other)
    chance = lowest(ways, comb(seen, steps) * len(sets) * len(other_sets))
    views = [(first.size, seen, tuple(sorted(one + two))) for one in sets for two in other_sets]
    return [(view, chance) for view in views]


def uniform_merge(first, second):
    """Return the law of the view of two samples merged with fair dice. Raises as their merge does."""
    check_merge(first, second)
    steps = min(first.size, first.seen + second.seen)
    rows = []
    for many in range(max(0, steps - second.seen), min(steps, first.seen) + 1):
        rows.extend(rows_with(first, second, steps, many))
    return law_from(rows)


def item_chance(number, size):
    """Return the chance that the plain law of so many items keeps a certain one."""
    return lowest(min(number, size), number)


def pair_chance(number, size):
    """Return the chance that the plain law of so many items keeps two certain ones."""
    if number <= size:
        return ONE
    return lowest(size * (size - 1), number * (number - 1))
