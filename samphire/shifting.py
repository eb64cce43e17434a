"""Nodes that draw anew: what arrives, and how far its mean can be shifted."""

from samphire.laws import law_from, mean
from samphire.ratios import ONE, less, minus, sum_of, times


def arrived(rows, retries, lost):
    """Return the law of what arrives by a table of losses."""
    table = {pair: True for pair in lost}
    found = list(rows)
    for left in range(1, retries + 1):
        kept = [(number, chance) for number, chance in rows if (left, number) not in table]
        again = minus(ONE, sum_of([chance for number, chance in kept]))
        found = law_from(kept + [(number, times(again, chance)) for number, chance in found])
    return found


def mean_by(rows, retries, lost):
    """Return the mean of what arrives by a table of losses."""
    return mean(arrived(rows, retries, lost))


def mean_above(rows, bound):
    """Return the mean of the greater one of the number and a bound."""
    return mean([(bound if less(number, bound) else number, chance) for number, chance in rows])


def mean_below(rows, bound):
    """Return the mean of the lesser one of the number and a bound."""
    return mean([(bound if less(bound, number) else number, chance) for number, chance in rows])


def ceilings(rows, retries):
    """Return the list of the greatest means with 0 to so many retries."""
    found = [mean(rows)]
    for _ in range(retries):
        found.append(mean_above(rows, found[-1]))
    return found


def floors(rows, retries):
    """Return the list of the least means with 0 to so many retries."""
    found = [mean(rows)]
    for _ in range(retries):
        found.append(mean_below(rows, found[-1]))
    return found


def greatest(rows, retries):
    """Return the pair of the greatest mean and the ascending table of losses that has it."""
    bounds = ceilings(rows, retries)
    lost = []
    for left in range(1, retries + 1):
        lost.extend([(left, number) for number, chance in rows if less(number, bounds[left - 1])])
    return (bounds[-1], sorted(lost))


def least(rows, retries):
    """Return the pair of the least mean and the ascending table of losses that has it."""
    bounds = floors(rows, retries)
    lost = []
    for left in range(1, retries + 1):
        lost.extend([(left, number) for number, chance in rows if less(bounds[left - 1], number)])
    return (bounds[-1], sorted(lost))


def accepts_ceilings(rows, bounds):
    """Return True if the list of fractions is accepted as ceilings."""
    due = [mean(rows)] + [mean_above(rows, bound) for bound in bounds[:-1]]
    for bound, told in zip(bounds, due):
        if less(bound, told):
            return False
    return True


def accepts_floors(rows, bounds):
    """Return True if the list of fractions is accepted as floors."""
    due = [mean(rows)] + [mean_below(rows, bound) for bound in bounds[:-1]]
    for bound, told in zip(bounds, due):
        if less(told, bound):
            return False
    return True
