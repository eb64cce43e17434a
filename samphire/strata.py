"""Places that are dealt to strata so that the variance is the least one."""

from samphire.errors import NoDeal
from samphire.ratios import ZERO, less, lowest, minus, over, plus, sum_of, times


def is_deal(limits, places, numbers):
    """Return True if the list of integers is a deal of so many places."""
    if len(numbers) != len(limits) or sum(numbers) != places:
        return False
    for number, limit in zip(numbers, limits):
        if not 1 <= number <= limit:
            return False
    return True


def variance_of(costs, deal):
    """Return the variance of a deal."""
    return sum_of([over(cost, (number, 1)) for cost, number in zip(costs, deal)])


def fall(cost, number):
    """Return the amount by which the term of a stratum with so many places falls at a next one."""
    return times(cost, lowest(1, number * (number + 1)))


def steepest(falls, limits, numbers):
    """Return the first one of the strata below their limits whose term falls the most, or None."""
    found = None
    for stratum, number in enumerate(numbers):
        if number < limits[stratum] and (found is None or less(falls[found], falls[stratum])):
            found = stratum
    return found


def deal(costs, limits, places):
    """Return (numbers, price): the deal that is made, and its price. Raises NoDeal."""
    if not len(limits) <= places <= sum(limits):
        raise NoDeal()
    numbers = [1] * len(limits)
    falls = [fall(cost, 1) for cost in costs]
    price = ZERO
    stratum = steepest(falls, limits, numbers)
    if stratum is not None:
        price = falls[stratum]
    for _ in range(places - len(limits)):
        price = falls[stratum]
        numbers[stratum] += 1
        falls[stratum] = fall(costs[stratum], numbers[stratum])
        stratum = steepest(falls, limits, numbers)
    return (numbers, price)


def least_value(cost, limit, price):
    """Return the least value of cost / n plus n times the price, for n from 1 to the limit."""
    found = plus(cost, price)
    for number in range(2, limit + 1):
        value = plus(over(cost, (number, 1)), times((number, 1), price))
        if less(value, found):
            found = value
    return found


def deal_bound(costs, limits, places, price):
    """Return the bound of a price for deals of so many places."""
    values = [least_value(cost, limit, price) for cost, limit in zip(costs, limits)]
    return minus(sum_of(values), times((places, 1), price))
