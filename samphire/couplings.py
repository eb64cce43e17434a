"""Couplings: two laws that are laid together, as far as pairs of outcomes are allowed.

Outcomes may be nested deeper than keys may be, and those of two laws need not be comparable, so in dicts
their written forms stand for them.
"""

from samphire.flows import cut_bound, greatest_flow
from samphire.ratios import ZERO, common_denominator, is_fraction, less, lowest, minus, plus, scaled, sum_of


def chances_of(rows):
    """Return the list of the chances of a law."""
    return [chance for outcome, chance in rows]


def numbered(rows):
    """Return the dict from the outcomes of a law, as written, to their places."""
    return {repr(outcome): place for place, (outcome, chance) in enumerate(rows)}


def placed(first, second, pairs):
    """Return the list of the pairs of places of pairs of outcomes, None for what is no outcome of its law."""
    ones = numbered(first)
    others = numbered(second)
    return [(ones.get(repr(outcome)), others.get(repr(other))) for outcome, other in pairs]


def sums_at(places, chances, many):
    """Return the list of the sums of the chances at each of so many places."""
    found = [ZERO] * many
    for place, chance in zip(places, chances):
        found[place] = plus(found[place], chance)
    return found


def ascends(rows):
    """Return True if each thing in the list is less than the next one."""
    for place in range(1, len(rows)):
        if not rows[place - 1] < rows[place]:
            return False
    return True


def is_coupling(first, second, rows):
    """Return True if the list of triples (outcome, other, fraction) is a coupling of two laws."""
    chances = [chance for outcome, other, chance in rows]
    for chance in chances:
        if not is_fraction(chance) or not less(ZERO, chance):
            return False
    pairs = placed(first, second, [(outcome, other) for outcome, other, chance in rows])
    ones = [one for one, other in pairs]
    others = [other for one, other in pairs]
    if None in ones or None in others or not ascends(pairs):
        return False
    if sums_at(ones, chances, len(first)) != chances_of(first):
        return False
    return sums_at(others, chances, len(second)) == chances_of(second)


def shared(rows, pairs):
    """Return the mass of a coupling on allowed pairs."""
    allowed = {repr((outcome, other)): True for outcome, other in pairs}
    return sum_of([chance for outcome, other, chance in rows if repr((outcome, other)) in allowed])


def whole_numbers(first, second):
    """Return (common, supplies, demands): the chances of two laws as integers, times a common denominator."""
    common = common_denominator(chances_of(first) + chances_of(second))
    return (common, scaled(chances_of(first), common), scaled(chances_of(second), common))


def rest_shared_out(supplies, demands, triples):
    """Return triples (place, other place, amount) for what triples leave of supplies and demands of one sum."""
    left = list(supplies)
    room = list(demands)
    for one, other, amount in triples:
        left[one] -= amount
        room[other] -= amount
    found = []
    other = 0
    for one in range(len(left)):
        while left[one] > 0:
            amount = min(left[one], room[other])
            if amount > 0:
                found.append((one, other, amount))
                left[one] -= amount
                room[other] -= amount
            else:
                other += 1
    return found


def couple(first, second, pairs):
    """Return (mass, rows, outcomes): the greatest mass, a coupling that has it, and the least set, ascending."""
    common, supplies, demands = whole_numbers(first, second)
    arcs = placed(first, second, pairs)
    size, flow, cut = greatest_flow(supplies, demands, arcs)
    triples = [(one, other, amount) for (one, other), amount in zip(arcs, flow) if amount > 0]
    # No allowed pair has something left on both sides of a greatest flow, so no pair comes twice.
    triples = sorted(triples + rest_shared_out(supplies, demands, triples))
    rows = [(first[one][0], second[other][0], lowest(amount, common)) for one, other, amount in triples]
    return (lowest(size, common), rows, [first[place][0] for place in cut])


def shows_most(first, second, pairs, outcomes):
    """Return the bound of the set that a list of outcomes of the first law makes."""
    common, supplies, demands = whole_numbers(first, second)
    places = numbered(first)
    cut = [places[repr(outcome)] for outcome in outcomes]
    return lowest(cut_bound(supplies, demands, placed(first, second, pairs), cut), common)


def equal_pairs(first, second):
    """Return the ascending list of the pairs of equal outcomes of two laws."""
    others = numbered(second)
    return [(outcome, outcome) for outcome, chance in first if repr(outcome) in others]


def gains(first, second):
    """Return the list of pairs (outcome, fraction) of what the first law gives more than the second, ascending."""
    others = {repr(outcome): chance for outcome, chance in second}
    found = []
    for outcome, chance in first:
        more = minus(chance, others.get(repr(outcome), ZERO))
        if less(ZERO, more):
            found.append((outcome, more))
    return found


def distance(first, second):
    """Return the distance of two laws."""
    return sum_of([more for outcome, more in gains(first, second)])


def differs_most(first, second):
    """Return the ascending list of the outcomes to which the first law gives more than the second."""
    return [outcome for outcome, more in gains(first, second)]
