"""Estimates of sums over all items that a sample stands for, and their variances."""

from itertools import permutations

from samphire.errors import TooLarge
from samphire.optimal import threshold, weights_of
from samphire.ratios import ZERO, less, lowest, minus, over, plus, sum_of, times
from samphire.samples import weight_of
from samphire.uniform import Uniform
from samphire.weighted import Weighted, order_chance

MOST_ORDERED = 6


def is_whole(sample):
    """Return True if the sample has kept all that it stands for."""
    if isinstance(sample, Uniform):
        return len(sample.kept) == sample.seen
    if isinstance(sample, Weighted):
        return weight_of(sample.kept) == sample.total
    for item, adjusted in sample.parts:
        if adjusted != (item[2], 1):
            return False
    return True


def amount_of(amounts, item):
    """Return the amount of an item."""
    return amounts.get(item[0], 0)


def true_sum(things, amounts):
    """Return the sum of the amounts of a list of items."""
    return sum([amount_of(amounts, item) for item in things])


def mean_of(numbers):
    """Return the mean of a list of fractions."""
    return over(sum_of(numbers), (len(numbers), 1))


def squares_around(numbers):
    """Return the sum of the squares of the differences of fractions from their mean."""
    middle = mean_of(numbers)
    differences = [minus(number, middle) for number in numbers]
    return sum_of([times(number, number) for number in differences])


def amounts_of(things, amounts):
    """Return the list of the amounts of items, as fractions."""
    return [(amount_of(amounts, item), 1) for item in things]


def uniform_estimate(sample, amounts):
    """Return the estimate and the variance of a uniform sample that is not whole."""
    kept = len(sample.kept)
    found = lowest(sample.seen * true_sum(sample.kept, amounts), kept)
    if kept == 1:
        return (found, None)
    factor = lowest(sample.seen * (sample.seen - kept), kept * (kept - 1))
    return (found, times(factor, squares_around(amounts_of(sample.kept, amounts))))


def ordered_estimates(total, kept, amounts):
    """Return the list of the ordered estimates for items in an order, with the total of all weights."""
    found = []
    left = total
    before = 0
    for item in kept:
        amount = amount_of(amounts, item)
        found.append(plus((before, 1), lowest(amount * left, item[2])))
        before += amount
        left -= item[2]
    return found


def weighted_estimate(sample, amounts):
    """Return the estimate and the variance of a weighted sample that is not whole."""
    numbers = ordered_estimates(sample.total, sample.kept, amounts)
    many = len(numbers)
    if many == 1:
        return (numbers[0], None)
    return (mean_of(numbers), times(lowest(1, many * (many - 1)), squares_around(numbers)))


def optimal_estimate(sample, amounts):
    """Return the estimate and the variance of an optimal sample that is not whole."""
    added = []
    varied = []
    for item, adjusted in sample.parts:
        weight = (item[2], 1)
        share = lowest(amount_of(amounts, item), item[2])
        added.append(times(share, adjusted))
        varied.append(times(times(share, share), times(adjusted, minus(adjusted, weight))))
    return (sum_of(added), sum_of(varied))


def estimate(sample, amounts):
    """Return the pair of the estimate from a sample and its variance, which may be None."""
    if is_whole(sample):
        return ((true_sum(sample.kept, amounts), 1), ZERO)
    if isinstance(sample, Uniform):
        return uniform_estimate(sample, amounts)
    if isinstance(sample, Weighted):
        return weighted_estimate(sample, amounts)
    return optimal_estimate(sample, amounts)


def ordered(sample, amounts):
    """Return the list of the ordered estimates of a weighted sample, or of its estimate alone if it is whole."""
    if is_whole(sample):
        return [(true_sum(sample.kept, amounts), 1)]
    return ordered_estimates(sample.total, sample.kept, amounts)


def unordered(sample, amounts):
    """Return the unordered estimate of a weighted sample. Raises TooLarge."""
    if is_whole(sample):
        return (true_sum(sample.kept, amounts), 1)
    if len(sample.kept) > MOST_ORDERED:
        raise TooLarge("orders")
    chances = []
    weighed = []
    for order in [list(row) for row in permutations(sample.kept)]:
        chance = order_chance(sample.total, order)
        chances.append(chance)
        weighed.append(times(chance, mean_of(ordered_estimates(sample.total, order, amounts))))
    return over(sum_of(weighed), sum_of(chances))


def known_uniform(things, size, amounts):
    """Return the known variance for uniform samples of a list of items."""
    number = len(things)
    if number <= size:
        return ZERO
    factor = lowest(number * (number - size), size * (number - 1))
    return times(factor, squares_around(amounts_of(things, amounts)))


def known_optimal(things, size, amounts):
    """Return the known variance for optimal samples of a list of items."""
    bar = threshold(weights_of(things), size)
    varied = []
    for item in things:
        weight = (item[2], 1)
        amount = amount_of(amounts, item)
        if less(weight, bar):
            varied.append(times((amount * amount, 1), over(minus(bar, weight), weight)))
    return sum_of(varied)
