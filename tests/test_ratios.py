"""Promise 12: fractions, and exact calculations with them."""

import fractions
import unittest

from samphire.errors import ZeroDenominator
from samphire.ratios import (
    common_denominator, is_fraction, less, lowest, minus, over, plus, scaled, sum_of, times,
)

LONG = 10 ** 40 + 7
SMALL = [(p, q) for p in range(-4, 5) for q in range(1, 5) if is_fraction((p, q))]
GREAT = [
    lowest(LONG, 3 ** 83), lowest(-LONG, 2 ** 133), lowest(LONG - 1, LONG + 2), lowest(7 * 10 ** 40, LONG), (LONG, 1),
]


def exact(pair):
    return fractions.Fraction(pair[0], pair[1])


def pair_of(number):
    return (number.numerator, number.denominator)


class FractionTest(unittest.TestCase):
    def test_is_fraction(self):
        for pair in ((0, 1), (1, 1), (-1, 1), (1, 2), (-7, 3), (5, 1), (LONG, LONG + 1), (-LONG, 1)):
            with self.subTest(pair):
                self.assertIs(is_fraction(pair), True)
        for pair in ((0, 2), (2, 2), (2, 4), (-6, 3), (1, 0), (0, 0), (1, -1), (1, -2), (0, -1), (3 * LONG, 3)):
            with self.subTest(pair):
                self.assertIs(is_fraction(pair), False)

    def test_lowest(self):
        self.assertEqual(lowest(6, 4), (3, 2))
        self.assertEqual(lowest(-6, 4), (-3, 2))
        self.assertEqual(lowest(6, -4), (-3, 2))
        self.assertEqual(lowest(-6, -4), (3, 2))
        self.assertEqual(lowest(0, 5), (0, 1))
        self.assertEqual(lowest(0, -5), (0, 1))
        self.assertEqual(lowest(7, 1), (7, 1))
        self.assertEqual(lowest(7, -1), (-7, 1))
        self.assertEqual(lowest(LONG * 6, LONG * -4), (-3, 2))

    def test_zero_as_denominator(self):
        for p in (0, 1, -5, LONG):
            with self.subTest(p):
                self.assertRaises(ZeroDenominator, lowest, p, 0)

    def test_small_numbers(self):
        self.assertEqual(plus((1, 2), (1, 3)), (5, 6))
        self.assertEqual(plus((1, 2), (-1, 2)), (0, 1))
        self.assertEqual(minus((1, 2), (1, 3)), (1, 6))
        self.assertEqual(minus((1, 3), (1, 2)), (-1, 6))
        self.assertEqual(times((2, 3), (3, 4)), (1, 2))
        self.assertEqual(times((-2, 3), (0, 1)), (0, 1))
        self.assertEqual(over((1, 2), (-3, 4)), (-2, 3))
        self.assertEqual(over((0, 1), (-3, 4)), (0, 1))

    def test_all_pairs(self):
        for numbers in (SMALL, GREAT):
            for a in numbers:
                for b in numbers:
                    with self.subTest(a=a, b=b):
                        self.assertEqual(plus(a, b), pair_of(exact(a) + exact(b)))
                        self.assertEqual(minus(a, b), pair_of(exact(a) - exact(b)))
                        self.assertEqual(times(a, b), pair_of(exact(a) * exact(b)))
                        self.assertIs(less(a, b), exact(a) < exact(b))
                        if b[0] != 0:
                            self.assertEqual(over(a, b), pair_of(exact(a) / exact(b)))

    def test_a_divisor_that_is_zero(self):
        for a in ((0, 1), (1, 2), (-LONG, 1)):
            with self.subTest(a):
                self.assertRaises(ZeroDenominator, over, a, (0, 1))

    def test_less(self):
        self.assertIs(less((1, 3), (1, 2)), True)
        self.assertIs(less((1, 2), (1, 3)), False)
        self.assertIs(less((1, 2), (1, 2)), False)
        self.assertIs(less((-1, 2), (-1, 3)), True)
        self.assertIs(less((-1, 2), (0, 1)), True)
        self.assertIs(less((0, 1), (0, 1)), False)
        self.assertIs(less((LONG, LONG + 1), (LONG + 1, LONG + 2)), True)

    def test_sum_of(self):
        self.assertEqual(sum_of([]), (0, 1))
        self.assertEqual(sum_of([(-3, 2)]), (-3, 2))
        self.assertEqual(sum_of([(1, 2), (1, 3), (1, 6)]), (1, 1))
        self.assertEqual(sum_of([(1, 2), (0, 1), (-1, 2)]), (0, 1))
        self.assertEqual(sum_of(GREAT), pair_of(sum([exact(a) for a in GREAT])))

    def test_a_common_denominator(self):
        for numbers, common in (([], 1), ([(5, 1)], 1), ([(1, 4), (-5, 6), (0, 1)], 12), ([(2, 3), (1, 3)], 3)):
            self.assertEqual(common_denominator(numbers), common)
            for factor in (common, 5 * common):
                self.assertEqual(scaled(numbers, factor), [exact(number) * factor for number in numbers])

    def test_the_list_stays_as_it_is(self):
        numbers = [(1, 2), (1, 3)]
        sum_of(numbers)
        self.assertEqual(numbers, [(1, 2), (1, 3)])


if __name__ == "__main__":
    unittest.main()
