"""Promises 57 to 59: the spread, the bound of a price, and the best price."""

import itertools
import math
import unittest
from fractions import Fraction

from oracles import exact, pair_of

from samphire.dice import Mixer
from samphire.optimal import item_chances
from samphire.prices import best_chances, best_price, price_bound, spread

LISTS = [[5, 1, 2], [1], [1000], [3, 3, 3, 3], [1, 1000, 1, 1], [7, 2, 2, 9, 4], [1, 2, 3, 4, 5, 6], [1000, 999, 1]]


def spread_of(weights, chances):
    return sum(weight * weight * (1 / exact(chance) - 1) for weight, chance in zip(weights, chances))


def bound_of(weights, size, price):
    found = -size * price * price
    for weight in weights:
        found += price * price if weight >= price else 2 * weight * price - weight * weight
    return found


class SpreadTest(unittest.TestCase):
    def test_certain_values(self):
        self.assertEqual(spread([5, 1, 2], [(1, 1), (1, 3), (2, 3)]), (4, 1))
        self.assertEqual(spread([3], [(2, 5)]), (27, 2))
        self.assertEqual(spread([1000], [(1, 1000)]), (999000000, 1))
        self.assertEqual(spread([2, 3], [(3, 4), (5, 7)]), (74, 15))

    def test_nothing_is_left_to_chance(self):
        for weights in ([], *LISTS):
            self.assertEqual(spread(weights, [(1, 1)] * len(weights)), (0, 1))

    def test_by_the_definition(self):
        for weights in LISTS:
            for shift in range(4):
                chances = [pair_of(Fraction(1 + (place + shift) % 4, 4)) for place in range(len(weights))]
                self.assertEqual(spread(weights, chances), pair_of(spread_of(weights, chances)))

    def test_what_is_passed_stays(self):
        weights, chances = [2, 3], [(3, 4), (5, 7)]
        spread(weights, chances)
        self.assertEqual((weights, chances), ([2, 3], [(3, 4), (5, 7)]))


class PriceBoundTest(unittest.TestCase):
    def test_certain_values(self):
        self.assertEqual(price_bound([5, 1, 2], 2, (3, 1)), (4, 1))
        self.assertEqual(price_bound([5, 1, 2], 2, (1, 1)), (1, 1))
        self.assertEqual(price_bound([5, 1, 2], 2, (7, 2)), (15, 4))

    def test_the_price_zero(self):
        for weights in ([], *LISTS):
            for size in (1, 2, 20):
                self.assertEqual(price_bound(weights, size, (0, 1)), (0, 1))

    def test_a_price_that_is_equal_to_a_weight(self):
        # Both rules give the same there.
        self.assertEqual(price_bound([4], 1, (4, 1)), (0, 1))
        self.assertEqual(price_bound([5, 1, 2], 2, (2, 1)), (3, 1))
        self.assertEqual(price_bound([5, 1, 2], 2, (5, 1)), (0, 1))

    def test_by_the_definition(self):
        prices = [Fraction(p, q) for p in range(0, 31, 3) for q in (1, 2, 7)] + [Fraction(1000), Fraction(2001, 2)]
        for weights in ([], *LISTS):
            for size in (1, 2, 5):
                for price in prices:
                    told = pair_of(bound_of(weights, size, price))
                    self.assertEqual(price_bound(weights, size, pair_of(price)), told)

    def test_no_chances_have_a_lesser_spread(self):
        parts = [Fraction(number, 4) for number in range(1, 5)]
        for weights in ([5, 1, 2], [3, 3, 3], [1, 1, 1000]):
            for chances in itertools.product(parts, repeat=3):
                size = math.ceil(sum(chances))
                found = exact(spread(weights, [pair_of(chance) for chance in chances]))
                for price in (0, Fraction(1, 2), 1, 2, 3, Fraction(9, 2), 1002):
                    self.assertGreaterEqual(found, exact(price_bound(weights, size, pair_of(price))))


class BestPriceTest(unittest.TestCase):
    def test_certain_values(self):
        self.assertEqual(best_price([5, 1, 2], 2), (3, 1))
        self.assertEqual(best_chances([5, 1, 2], 2), [(1, 1), (1, 3), (2, 3)])
        self.assertEqual(best_price([5, 1, 2], 1), (8, 1))
        self.assertEqual(best_chances([5, 1, 2], 1), [(5, 8), (1, 8), (1, 4)])

    def test_fewer_weights_than_the_size_and_as_many(self):
        for weights in ([], *LISTS):
            for size in range(max(1, len(weights)), len(weights) + 3):
                self.assertEqual(best_price(weights, size), (0, 1))
                self.assertEqual(best_chances(weights, size), [(1, 1)] * len(weights))
                self.assertEqual(price_bound(weights, size, (0, 1)), spread(weights, best_chances(weights, size)))

    def test_equal_weights(self):
        for number in range(2, 7):
            for size in range(1, number):
                self.assertEqual(best_price([6] * number, size), pair_of(Fraction(6 * number, size)))
                self.assertEqual(best_chances([6] * number, size), [pair_of(Fraction(size, number))] * number)

    def test_a_weight_that_is_far_greater_than_the_others(self):
        self.assertEqual(best_price([1, 1000, 1, 1], 2), (3, 1))
        self.assertEqual(best_chances([1, 1000, 1, 1], 2), [(1, 3), (1, 1), (1, 3), (1, 3)])
        self.assertEqual(best_price([1, 1000, 1, 1], 1), (1003, 1))
        self.assertEqual(best_price([1000, 1, 900, 1], 3), (2, 1))

    def test_a_weight_that_is_just_the_price(self):
        self.assertEqual((best_price([1, 2, 3], 2), best_chances([1, 2, 3], 2)), ((3, 1), [(1, 3), (2, 3), (1, 1)]))

    def test_the_sum_that_makes_the_price(self):
        for weights in LISTS:
            for size in range(1, len(weights)):
                price = exact(best_price(weights, size))
                self.assertGreater(price, 0)
                told = [min(Fraction(1), weight / price) for weight in weights]
                self.assertEqual(sum(told), size)
                self.assertEqual(best_chances(weights, size), [pair_of(chance) for chance in told])

    def test_the_spread_is_the_bound_and_no_price_has_a_greater_one(self):
        for weights in LISTS:
            for size in range(1, len(weights) + 2):
                price = best_price(weights, size)
                told = price_bound(weights, size, price)
                self.assertEqual(spread(weights, best_chances(weights, size)), told)
                tried = [Fraction(p, q) for p in range(0, 40) for q in (1, 3, 8)]
                tried += [exact(price) + Fraction(part, 1000) for part in (-1, 1, 50)] + [Fraction(weight) for weight in weights]
                for other in tried:
                    if other >= 0:
                        self.assertLessEqual(exact(price_bound(weights, size, pair_of(other))), exact(told))

    def test_no_tried_chances_have_a_lesser_spread(self):
        parts = [Fraction(number, 6) for number in range(1, 7)]
        for weights in ([5, 1, 2], [3, 3, 3], [2, 9, 1]):
            for size in (1, 2):
                told = exact(spread(weights, best_chances(weights, size)))
                for chances in itertools.product(parts, repeat=3):
                    if sum(chances) <= size:
                        self.assertGreaterEqual(exact(spread(weights, [pair_of(chance) for chance in chances])), told)

    def test_the_greatest_lists(self):
        dice = Mixer(9)
        weights = [dice.pick([1] * 1000) + 1 for _ in range(60)]
        for size in (1, 10, 20):
            price = best_price(weights, size)
            self.assertEqual(spread(weights, best_chances(weights, size)), price_bound(weights, size, price))
            items = [(f"k{place}", "g", weight, 0) for place, weight in enumerate(weights)]
            self.assertEqual(best_chances(weights, size), item_chances(items, size))

    def test_what_is_passed_stays_and_what_is_returned_is_new(self):
        weights = [5, 1, 2]
        best_chances(weights, 2).clear()
        best_price(weights, 2)
        price_bound(weights, 2, (1, 2))
        self.assertEqual((weights, len(best_chances(weights, 2))), ([5, 1, 2], 3))


if __name__ == "__main__":
    unittest.main()
