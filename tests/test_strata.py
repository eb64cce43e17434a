"""Promises 60 to 62: deals of places to strata, their variance and price, and the bound of a price."""

import itertools
import unittest
from fractions import Fraction

from oracles import exact, pair_of

from samphire.dice import Mixer
from samphire.errors import NoDeal
from samphire.strata import deal, deal_bound, is_deal, variance_of

COSTS = [(12, 1), (3, 1)]
CASES = [
    ([(12, 1), (3, 1)], [5, 5]),
    ([(1, 1), (1, 1), (1, 1)], [2, 3, 2]),
    ([(0, 1), (5, 2), (0, 1)], [2, 2, 3]),
    ([(0, 1), (0, 1)], [3, 2]),
    ([(7, 3), (1, 5), (40, 1)], [1, 4, 2]),
    ([(6, 1), (2, 1), (6, 1)], [4, 4, 4]),
    ([(9, 4)], [6]),
    ([(3, 1), (8, 1)], [1, 1]),
]


def all_deals(limits, places):
    ranges = [range(1, limit + 1) for limit in limits]
    return [list(numbers) for numbers in itertools.product(*ranges) if sum(numbers) == places]


def variance(costs, numbers):
    return sum(exact(cost) / number for cost, number in zip(costs, numbers))


def falls_of(costs, limits, numbers):
    """The pairs (amount, stratum) by which terms below their limits would fall at a next place."""
    return [(exact(cost) / number - exact(cost) / (number + 1), stratum)
            for stratum, (cost, limit, number) in enumerate(zip(costs, limits, numbers)) if number < limit]


def step_by_step(costs, limits, places):
    """The deal that is made and its price, by the words of the document."""
    numbers = [1] * len(limits)
    price = None
    while sum(numbers) < places:
        falls = falls_of(costs, limits, numbers)
        price = max(amount for amount, _ in falls)
        numbers[min(stratum for amount, stratum in falls if amount == price)] += 1
    if price is None:
        price = max([amount for amount, _ in falls_of(costs, limits, numbers)], default=Fraction(0))
    return numbers, pair_of(price)


def bound_of(costs, limits, places, price):
    least = [min(exact(cost) / number + number * price for number in range(1, limit + 1))
             for cost, limit in zip(costs, limits)]
    return sum(least) - places * price


class DealTest(unittest.TestCase):
    def test_certain_values(self):
        self.assertEqual(deal(COSTS, [5, 5], 4), ([3, 1], (2, 1)))
        self.assertEqual(deal(COSTS, [5, 5], 3), ([2, 1], (6, 1)))
        self.assertEqual(deal(COSTS, [5, 5], 5), ([3, 2], (3, 2)))
        self.assertEqual(deal(COSTS, [5, 5], 10), ([5, 5], (3, 20)))

    def test_step_by_step(self):
        for costs, limits in CASES:
            for places in range(len(limits), sum(limits) + 1):
                with self.subTest(costs=costs, limits=limits, places=places):
                    self.assertEqual(deal(costs, limits, places), step_by_step(costs, limits, places))

    def test_among_several_strata_the_first_one(self):
        self.assertEqual(deal([(1, 1)] * 3, [4] * 3, 4)[0], [2, 1, 1])
        self.assertEqual(deal([(1, 1)] * 3, [4] * 3, 5)[0], [2, 2, 1])
        self.assertEqual(deal([(1, 1), (1, 1), (1, 1)], [1, 4, 4], 4)[0], [1, 2, 1])
        # A term of the cost 36 falls by 18 and then by 6, as much as one of the cost 12 at its second place.
        self.assertEqual(deal([(12, 1), (36, 1)], [3, 3], 4), ([2, 2], (6, 1)))
        self.assertEqual(deal([(36, 1), (12, 1)], [3, 3], 4), ([3, 1], (6, 1)))
        self.assertEqual(deal([(12, 1), (36, 1)], [3, 3], 5), ([2, 3], (6, 1)))

    def test_costs_that_are_zero(self):
        self.assertEqual(deal([(0, 1), (0, 1)], [3, 3], 4), ([3, 1], (0, 1)))
        self.assertEqual(deal([(0, 1), (0, 1)], [3, 3], 5), ([3, 2], (0, 1)))
        self.assertEqual(deal([(0, 1), (1, 1)], [3, 3], 4), ([1, 3], (1, 6)))
        self.assertEqual(deal([(0, 1), (1, 1)], [3, 3], 5), ([2, 3], (0, 1)))

    def test_limits_of_one(self):
        self.assertEqual(deal([(3, 1), (8, 1)], [1, 1], 2), ([1, 1], (0, 1)))
        self.assertEqual(deal([(3, 1), (8, 1)], [1, 3], 4), ([1, 3], (4, 3)))
        self.assertEqual(deal([(300, 1), (8, 1)], [1, 3], 3), ([1, 2], (4, 1)))

    def test_the_price_where_no_place_was_dealt_behind_the_first_ones(self):
        self.assertEqual(deal(COSTS, [5, 5], 2), ([1, 1], (6, 1)))
        self.assertEqual(deal(COSTS, [1, 5], 2), ([1, 1], (3, 2)))
        self.assertEqual(deal(COSTS, [1, 1], 2), ([1, 1], (0, 1)))
        self.assertEqual(deal([(0, 1)], [4], 1), ([1], (0, 1)))

    def test_too_few_and_too_many_places(self):
        for costs, limits in CASES:
            for places in (-1, 0, len(limits) - 1, sum(limits) + 1, sum(limits) + 50):
                self.assertEqual(all_deals(limits, places), [])
                self.assertRaises(NoDeal, deal, costs, limits, places)
            for places in (len(limits), sum(limits)):
                self.assertTrue(is_deal(limits, places, deal(costs, limits, places)[0]))

    def test_no_deal_has_a_lesser_variance(self):
        for costs, limits in CASES:
            for places in range(len(limits), sum(limits) + 1):
                numbers, price = deal(costs, limits, places)
                told = min(variance(costs, other) for other in all_deals(limits, places))
                self.assertEqual(exact(variance_of(costs, numbers)), told)
                self.assertEqual(deal_bound(costs, limits, places, price), variance_of(costs, numbers))

    def test_mixed_lists(self):
        dice = Mixer(4)
        for _ in range(150):
            many = dice.pick([1] * 4) + 1
            costs = [pair_of(Fraction(dice.pick([1] * 9), dice.pick([1] * 3) + 1)) for _ in range(many)]
            limits = [dice.pick([1] * 4) + 1 for _ in range(many)]
            for places in range(many, sum(limits) + 1):
                numbers, price = deal(costs, limits, places)
                self.assertEqual((numbers, price), step_by_step(costs, limits, places))
                least = min(variance(costs, other) for other in all_deals(limits, places))
                self.assertEqual(exact(deal_bound(costs, limits, places, price)), least)

    def test_the_greatest_limits(self):
        costs = [pair_of(Fraction(number * 37 % 11, number)) for number in range(1, 21)]
        numbers, price = deal(costs, [60] * 20, 600)
        self.assertTrue(is_deal([60] * 20, 600, numbers))
        self.assertEqual(deal_bound(costs, [60] * 20, 600, price), variance_of(costs, numbers))

    def test_what_is_passed_stays_and_what_is_returned_is_new(self):
        costs, limits = list(COSTS), [5, 5]
        for places in (2, 4):
            deal(costs, limits, places)[0].clear()
            self.assertEqual((costs, limits), (COSTS, [5, 5]))
        self.assertEqual(deal(costs, limits, 4)[0], [3, 1])


class IsDealTest(unittest.TestCase):
    def test_deals(self):
        self.assertIs(is_deal([5, 5], 4, [3, 1]), True)
        self.assertIs(is_deal([1], 1, [1]), True)

    def test_what_is_none(self):
        for limits, places, numbers in (
            ([5, 5], 4, [2, 1]), ([5, 5], 4, [3, 2]), ([5, 5], 4, [4, 0]), ([5, 5], 4, [5, -1]), ([5, 5], 7, [6, 1]),
            ([5, 5], 7, [1, 6]), ([5, 5], 4, [4]), ([5, 5], 4, [2, 1, 1]), ([5, 5], 0, []), ([5, 5], 4, [4, 0, 0]),
        ):
            self.assertIs(is_deal(limits, places, numbers), False)

    def test_by_the_definition(self):
        for limits in ([2, 3], [1, 4], [3, 1, 2]):
            for numbers in itertools.product(range(-1, 5), repeat=len(limits)):
                for places in range(0, 8):
                    told = list(numbers) in all_deals(limits, places)
                    self.assertIs(is_deal(limits, places, list(numbers)), told)


class VarianceTest(unittest.TestCase):
    def test_certain_values(self):
        self.assertEqual(variance_of(COSTS, [3, 1]), (7, 1))
        self.assertEqual(variance_of([(1, 2), (0, 1), (5, 3)], [3, 7, 2]), (1, 1))
        self.assertEqual(variance_of([(0, 1)], [1]), (0, 1))

    def test_by_the_definition(self):
        for costs, limits in CASES:
            for places in range(len(limits), sum(limits) + 1):
                for numbers in all_deals(limits, places):
                    self.assertEqual(variance_of(costs, numbers), pair_of(variance(costs, numbers)))


class BoundTest(unittest.TestCase):
    PRICES = [Fraction(p, q) for p in range(9) for q in (1, 2, 5)] + [Fraction(100), Fraction(1, 1000)]

    def test_certain_values(self):
        self.assertEqual(deal_bound(COSTS, [5, 5], 4, (2, 1)), (7, 1))
        self.assertEqual(deal_bound(COSTS, [5, 5], 4, (1, 1)), (13, 2))
        self.assertEqual(deal_bound(COSTS, [5, 5], 4, (0, 1)), (3, 1))
        self.assertEqual(deal_bound([(8, 1)], [1], 1, (5, 1)), (8, 1))

    def test_by_the_definition(self):
        for costs, limits in CASES:
            for places in (0, len(limits), sum(limits), 50):
                for price in self.PRICES:
                    told = pair_of(bound_of(costs, limits, places, price))
                    self.assertEqual(deal_bound(costs, limits, places, pair_of(price)), told)

    def test_no_deal_is_below_the_bound_of_any_price(self):
        for costs, limits in CASES:
            for places in range(len(limits), sum(limits) + 1):
                least = min(variance(costs, numbers) for numbers in all_deals(limits, places))
                for price in self.PRICES:
                    self.assertLessEqual(exact(deal_bound(costs, limits, places, pair_of(price))), least)

    def test_what_is_passed_stays(self):
        costs, limits, numbers = list(COSTS), [5, 5], [3, 1]
        deal_bound(costs, limits, 4, (1, 1))
        variance_of(costs, numbers)
        is_deal(limits, 4, numbers)
        self.assertEqual((costs, limits, numbers), (COSTS, [5, 5], [3, 1]))


if __name__ == "__main__":
    unittest.main()
