"""The least spread of schemes that keep items with chances, and the prices that show it."""

from samphire.optimal import chance_at, threshold
from samphire.ratios import ONE, less, minus, over, sum_of, times


def as_fractions(weights):
    """Return the list of integers as fractions."""
    return [(weight, 1) for weight in weights]


def spread(weights, chances):
    """Return the spread of weights and chances."""
    found = []
    for weight, chance in zip(weights, chances):
        found.append(times((weight * weight, 1), minus(over(ONE, chance), ONE)))
    return sum_of(found)


def price_bound(weights, size, price):
    """Return the bound of a price."""
    square = times(price, price)
    found = []
    for weight in as_fractions(weights):
        if less(weight, price):
            found.append(times(weight, minus(times((2, 1), price), weight)))
        else:
            found.append(square)
    return minus(sum_of(found), times((size, 1), square))


def best_price(weights, size):
    """Return the best price."""
    return threshold(as_fractions(weights), size)


def best_chances(weights, size):
    """Return the list of the chances of the best price, all one if it is zero."""
    price = best_price(weights, size)
    return [chance_at(weight, price) for weight in as_fractions(weights)]
