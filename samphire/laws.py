"""Laws: lists of outcomes and their chances, and what is worked out from such lists."""

from samphire.errors import InvalidLaw
from samphire.ratios import ONE, ZERO, is_fraction, less, minus, plus, sum_of, times


def check_chances(chances):
    """Raise InvalidLaw unless the fractions are at least 0 and sum up to one."""
    for chance in chances:
        if less(chance, ZERO):
            raise InvalidLaw()
    if sum_of(chances) != ONE:
        raise InvalidLaw()


def is_law(rows):
    """Return True if the list of pairs of comparable outcomes and fractions is a law."""
    for outcome, chance in rows:
        if not is_fraction(chance) or not less(ZERO, chance):
            return False
    for place in range(1, len(rows)):
        if not rows[place - 1][0] < rows[place][0]:
            return False
    return sum_of([chance for outcome, chance in rows]) == ONE


def law_from(rows):
    """Return the law of pairs (outcome, fraction), in which outcomes may come more than once."""
    check_chances([chance for outcome, chance in rows])
    found = []
    for outcome, chance in sorted(rows, key=lambda row: row[0]):
        if found and found[-1][0] == outcome:
            found[-1] = (outcome, plus(found[-1][1], chance))
        else:
            found.append((outcome, chance))
    return [(outcome, chance) for outcome, chance in found if chance != ZERO]


def chance_of(rows, outcome):
    """Return the chance of an outcome in a law, zero if the law does not have it."""
    for other, chance in rows:
        if other == outcome:
            return chance
    return ZERO


def mean(rows):
    """Return the mean of a list of pairs (number, chance)."""
    return sum_of([times(number, chance) for number, chance in rows])


def variance(rows):
    """Return the variance of a list of pairs (number, chance)."""
    return covariance([(number, number, chance) for number, chance in rows])


def covariance(rows):
    """Return the covariance of a list of triples (number, other number, chance)."""
    middle = mean([(number, chance) for number, other, chance in rows])
    other_middle = mean([(other, chance) for number, other, chance in rows])
    products = []
    for number, other, chance in rows:
        products.append((times(minus(number, middle), minus(other, other_middle)), chance))
    return mean(products)


def mixed(laws, chances):
    """Return the mixture of laws with chances, of which there are as many."""
    check_chances(chances)
    rows = []
    for part, share in zip(laws, chances):
        rows.extend([(outcome, times(share, chance)) for outcome, chance in part])
    return law_from(rows)


def joined(first, second):
    """Return the law of the pairs of outcomes of two laws, drawn independently."""
    rows = []
    for outcome, chance in first:
        rows.extend([((outcome, other), times(chance, share)) for other, share in second])
    return rows


def carried(rows, table):
    """Return a law carried by a dict from outcomes to outcomes."""
    return law_from([(table.get(outcome, outcome), chance) for outcome, chance in rows])


def same_law(first, second):
    """Return True if the two laws are the same."""
    return first == second


def difference(first, second):
    """Return the least outcome at which two laws differ, or None."""
    # Of two laws neither is the beginning of the other one, as the chances of both sum up to one.
    for row, other in zip(first, second):
        if row != other:
            return min(row[0], other[0])
    return None
