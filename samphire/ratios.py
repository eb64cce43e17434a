"""Exact calculations with fractions: pairs of integers in lowest terms."""

from math import gcd, lcm

from samphire.errors import ZeroDenominator

ZERO = (0, 1)
ONE = (1, 1)


def is_fraction(pair):
    """Return True if the tuple of two integers is a fraction."""
    p, q = pair
    return q >= 1 and gcd(p, q) == 1


def lowest(p, q):
    """Return the fraction of p divided by q. Raises ZeroDenominator if q is 0."""
    if q == 0:
        raise ZeroDenominator()
    common = gcd(p, q)
    if q < 0:
        common = -common
    return (p // common, q // common)


def plus(a, b):
    """Return the sum of two fractions."""
    return lowest(a[0] * b[1] + b[0] * a[1], a[1] * b[1])


def minus(a, b):
    """Return the first fraction less the second."""
    return lowest(a[0] * b[1] - b[0] * a[1], a[1] * b[1])


def times(a, b):
    """Return the product of two fractions."""
    return lowest(a[0] * b[0], a[1] * b[1])


def over(a, b):
    """Return the first fraction divided by the second. Raises ZeroDenominator if that is zero."""
    return lowest(a[0] * b[1], a[1] * b[0])


def less(a, b):
    """Return True if the first fraction is less than the second."""
    return a[0] * b[1] < b[0] * a[1]


def sum_of(fractions):
    """Return the sum of a list of fractions."""
    total = ZERO
    for fraction in fractions:
        total = plus(total, fraction)
    return total


def common_denominator(fractions):
    """Return the least common multiple of the denominators of a list of fractions."""
    common = 1
    for fraction in fractions:
        common = lcm(common, fraction[1])
    return common


def scaled(fractions, factor):
    """Return the list of the fractions times a multiple of their denominators, as integers."""
    return [p * (factor // q) for p, q in fractions]
