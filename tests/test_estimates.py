"""Promises 36 to 42: estimates, the variances told with them, and known variances."""

import itertools
import unittest
from fractions import Fraction

from oracles import chances_of, exact, exact_rows, pair_of

from samphire.errors import TooLarge
from samphire.estimates import (
    amount_of, estimate, is_whole, known_optimal, known_uniform, ordered, true_sum, unordered,
)
from samphire.optimal import Optimal, threshold
from samphire.uniform import Uniform, uniform_law
from samphire.weighted import Weighted, weighted_law

A, B, C, D, E = [("a", "x", 1, 5), ("b", "x", 2, 7), ("c", "y", 6, -1), ("d", "y", 2, 0), ("e", "z", 9, 4)]
THINGS = [A, B, C, D, E]
ZERO = (0, 1)
AMOUNTS = {"a": 5, "b": -7, "c": 12, "e": 3, "other": 1000}
ABOVE = {"a": 4, "b": 1, "c": 10, "d": 3}
CASES = [AMOUNTS, ABOVE, {}, {"a": -1, "b": -1, "c": -1, "d": -1, "e": -1}]


def squares(numbers):
    middle = Fraction(sum(numbers), len(numbers))
    return sum((number - middle) ** 2 for number in numbers)


def in_order(total, order, amounts):
    """The ordered estimates by their definition."""
    found = []
    for place, item in enumerate(order):
        ahead = order[:place]
        share = Fraction(total - sum(other[2] for other in ahead), item[2])
        found.append(sum(amounts.get(other[0], 0) for other in ahead) + amounts.get(item[0], 0) * share)
    return found


def chance_in_order(total, order):
    chance = Fraction(1)
    for place, item in enumerate(order):
        chance *= Fraction(item[2], total - sum(other[2] for other in order[:place]))
    return chance


def optimal_chances(things, size, backwards=False):
    """The chances of the views of the sample of things that are merged one after the other."""
    def draw(dice):
        found = Optimal.single(things[0], size)
        for item in things[1:]:
            single = Optimal.single(item, size)
            found = single.merge(found, dice) if backwards else found.merge(single, dice)
        return found.view()
    return chances_of(draw)


class WholeTest(unittest.TestCase):
    def test_uniform(self):
        self.assertIs(is_whole(Uniform.empty(2)), True)
        self.assertIs(is_whole(Uniform.single(A, 1)), True)
        self.assertIs(is_whole(Uniform(2, 2, [A, B])), True)
        self.assertIs(is_whole(Uniform(2, 3, [A, B])), False)
        self.assertIs(is_whole(Uniform(1, 2, [A])), False)

    def test_weighted(self):
        self.assertIs(is_whole(Weighted.empty(2)), True)
        self.assertIs(is_whole(Weighted.single(E, 1)), True)
        self.assertIs(is_whole(Weighted(2, 7, [C, A])), True)
        self.assertIs(is_whole(Weighted(2, 8, [C, A])), False)

    def test_optimal(self):
        self.assertIs(is_whole(Optimal.empty(2)), True)
        self.assertIs(is_whole(Optimal.single(C, 2)), True)
        self.assertIs(is_whole(Optimal(2, [(A, (1, 1)), (C, (6, 1))])), True)
        self.assertIs(is_whole(Optimal(2, [(A, (3, 1)), (C, (6, 1))])), False)
        self.assertIs(is_whole(Optimal(2, [(A, (1, 1)), (C, (13, 2))])), False)

    def test_whole_ones_are_told_exactly(self):
        whole = Optimal(3, [(A, (1, 1)), (B, (2, 1)), (C, (6, 1))])
        for sample in (Uniform(3, 3, [A, B, C]), Weighted(3, 9, [C, A, B]), whole):
            self.assertEqual(estimate(sample, AMOUNTS), ((10, 1), ZERO))
            self.assertEqual(estimate(sample, {}), (ZERO, ZERO))
        for sample in (Uniform.empty(3), Weighted.empty(3), Optimal.empty(3)):
            self.assertEqual(estimate(sample, AMOUNTS), (ZERO, ZERO))
        for sample in (Uniform.single(B, 1), Weighted.single(B, 1), Optimal.single(B, 1)):
            self.assertEqual(estimate(sample, AMOUNTS), ((-7, 1), ZERO))


class AmountsTest(unittest.TestCase):
    def test_amount_of(self):
        self.assertEqual([amount_of(AMOUNTS, item) for item in THINGS], [5, -7, 12, 0, 3])
        self.assertEqual(amount_of({}, A), 0)

    def test_true_sum(self):
        self.assertEqual([true_sum(things, AMOUNTS) for things in ([], [A], [A, B], [D], THINGS)], [0, 5, -2, 0, 13])

    def test_what_is_passed_stays(self):
        things, amounts = [B, A], dict(AMOUNTS)
        sample = Weighted(2, 9, [B, A])
        true_sum(things, amounts), estimate(sample, amounts), known_uniform(things, 1, amounts)
        known_optimal(things, 1, amounts), unordered(sample, amounts), amount_of(amounts, D)
        ordered(sample, amounts).clear()
        self.assertEqual((things, amounts, sample.view()), ([B, A], AMOUNTS, (2, 9, (B, A))))


class UniformTest(unittest.TestCase):
    def test_by_the_formulas(self):
        for amounts in CASES:
            for kept in (2, 3, 4):
                for things in itertools.combinations(THINGS, kept):
                    for seen in (kept + 1, kept + 7):
                        y = [amounts.get(item[0], 0) for item in things]
                        told = Fraction(seen, kept) * sum(y)
                        around = Fraction(seen * (seen - kept), kept * (kept - 1)) * squares(y)
                        found = estimate(Uniform(kept, seen, things), amounts)
                        self.assertEqual(found, (pair_of(told), pair_of(around)))

    def test_one_kept_of_several(self):
        self.assertEqual(estimate(Uniform(1, 2, [A]), AMOUNTS), ((10, 1), None))
        self.assertEqual(estimate(Uniform(1, 9, [D]), AMOUNTS), (ZERO, None))


class WeightedTest(unittest.TestCase):
    def test_by_the_formulas(self):
        for amounts in CASES:
            for kept in (2, 3, 4):
                for things in itertools.permutations(THINGS, kept):
                    total = sum(item[2] for item in things) + 5
                    sample = Weighted(kept, total, things)
                    numbers = in_order(total, things, amounts)
                    self.assertEqual(ordered(sample, amounts), [pair_of(number) for number in numbers])
                    told = sum(numbers) / kept
                    around = squares(numbers) / (kept * (kept - 1))
                    self.assertEqual(estimate(sample, amounts), (pair_of(told), pair_of(around)))

    def test_one_kept_of_several(self):
        self.assertEqual(estimate(Weighted(1, 8, [C]), AMOUNTS), ((16, 1), None))
        self.assertEqual(ordered(Weighted(1, 8, [C]), AMOUNTS), [(16, 1)])
        self.assertEqual(unordered(Weighted(1, 8, [C]), AMOUNTS), (16, 1))

    def test_a_whole_one(self):
        self.assertEqual(ordered(Weighted(3, 9, [C, A, B]), AMOUNTS), [(10, 1)])
        self.assertEqual(ordered(Weighted.empty(3), AMOUNTS), [ZERO])
        self.assertEqual(unordered(Weighted(3, 9, [C, A, B]), AMOUNTS), (10, 1))
        self.assertEqual(unordered(Weighted.empty(3), AMOUNTS), ZERO)

    def test_unordered(self):
        for amounts in CASES:
            for kept in (2, 3, 4):
                for things in itertools.combinations(THINGS, kept):
                    total = sum(item[2] for item in things) + 3
                    orders = list(itertools.permutations(things))
                    chances = [chance_in_order(total, order) for order in orders]
                    means = [sum(in_order(total, order, amounts)) / kept for order in orders]
                    told = sum(chance * middle for chance, middle in zip(chances, means)) / sum(chances)
                    for order in orders[:2]:
                        self.assertEqual(unordered(Weighted(kept, total, order), amounts), pair_of(told))

    def test_more_than_six_kept_items(self):
        things = [(f"k{number}", "g", number + 1, 0) for number in range(8)]
        amounts = {item[0]: item[2] * 3 for item in things}
        # Amounts in proportion to the weights are told exactly by each order.
        self.assertEqual(unordered(Weighted(6, 50, things[:6]), amounts), (150, 1))
        for kept in (7, 8):
            with self.assertRaises(TooLarge) as caught:
                unordered(Weighted(kept, 50, things[:kept]), amounts)
            self.assertEqual(caught.exception.limit, "orders")
        self.assertEqual(unordered(Weighted(7, 28, things[:7]), amounts), (84, 1))
        self.assertEqual(len(ordered(Weighted(8, 50, things), amounts)), 8)


class OptimalTest(unittest.TestCase):
    def test_by_the_formulas(self):
        for amounts in CASES:
            for things in itertools.combinations(THINGS, 3):
                parts = [(item, pair_of(max(Fraction(7, 2), item[2]))) for item in things]
                told = sum(amounts.get(item[0], 0) * exact(a) / item[2] for item, a in parts)
                around = sum(
                    amounts.get(item[0], 0) ** 2 * exact(a) * (exact(a) - item[2]) / item[2] ** 2 for item, a in parts
                )
                self.assertEqual(estimate(Optimal(3, parts), amounts), (pair_of(told), pair_of(around)))

    def test_one_kept_of_several(self):
        self.assertEqual(estimate(Optimal(1, [(B, (5, 1))]), AMOUNTS), ((-35, 2), (735, 4)))


class KnownTest(unittest.TestCase):
    def test_uniform(self):
        for amounts in CASES:
            for number in range(6):
                things = THINGS[:number]
                y = [amounts.get(item[0], 0) for item in things]
                for size in range(1, 7):
                    told = 0
                    if size < number:
                        told = Fraction(number * (number - size), size * (number - 1)) * squares(y)
                    self.assertEqual(known_uniform(things, size, amounts), pair_of(told))

    def test_optimal(self):
        for amounts in CASES:
            for number in range(6):
                things = THINGS[:number]
                for size in range(1, 7):
                    bar = exact(threshold([(item[2], 1) for item in things], size))
                    told = sum(
                        Fraction(amounts.get(item[0], 0)) ** 2 * (bar - item[2]) / item[2]
                        for item in things if item[2] < bar
                    )
                    self.assertEqual(known_optimal(things, size, amounts), pair_of(told))

    def test_certain_values(self):
        amounts = {"a": 5, "b": 7, "c": -1, "other": 9}
        self.assertEqual(known_uniform([A, B, C], 2, amounts), (26, 1))
        self.assertEqual(known_optimal([A, B, C], 2, amounts), (149, 2))
        self.assertEqual((known_uniform([A, B, C], 3, amounts), known_optimal([A, B, C], 3, amounts)), (ZERO, ZERO))


class FactsTest(unittest.TestCase):
    def moments(self, chances, sample_of, number_of):
        """The mean and the variance of a number that is worked out from samples with chances."""
        numbers = [(number_of(sample_of(view)), chance) for view, chance in chances.items()]
        middle = sum(chance * number for number, chance in numbers)
        return middle, sum(chance * (number - middle) ** 2 for number, chance in numbers)

    def told_mean(self, chances, sample_of, amounts):
        return sum(chance * exact(estimate(sample_of(view), amounts)[1]) for view, chance in chances.items())

    def test_uniform(self):
        for amounts in CASES:
            for number in range(1, 6):
                for size in (1, 2, 3, 6):
                    things = THINGS[:number]
                    chances = exact_rows(uniform_law(things, size))
                    middle, around = self.moments(
                        chances, lambda view: Uniform(*view), lambda sample: exact(estimate(sample, amounts)[0]))
                    self.assertEqual(middle, true_sum(things, amounts))
                    self.assertEqual(pair_of(around), known_uniform(things, size, amounts))
                    if size > 1 or number == 1:
                        self.assertEqual(self.told_mean(chances, lambda view: Uniform(*view), amounts), around)

    def test_weighted(self):
        for amounts in CASES:
            for number in range(1, 6):
                for size in (1, 2, 3, 6):
                    things = THINGS[:number]
                    chances = exact_rows(weighted_law(things, size))
                    middle, around = self.moments(
                        chances, lambda view: Weighted(*view), lambda sample: exact(estimate(sample, amounts)[0]))
                    self.assertEqual(middle, true_sum(things, amounts))
                    if size > 1 or number == 1:
                        self.assertEqual(self.told_mean(chances, lambda view: Weighted(*view), amounts), around)
                    middle, less_around = self.moments(
                        chances, lambda view: Weighted(*view), lambda sample: exact(unordered(sample, amounts)))
                    self.assertEqual(middle, true_sum(things, amounts))
                    self.assertLessEqual(less_around, around)

    def test_optimal(self):
        for amounts in CASES:
            for number in range(1, 6):
                for size in (1, 2, 3, 6):
                    things = THINGS[:number]
                    for backwards in (False, True):
                        chances = optimal_chances(things, size, backwards)
                        self.check_optimal(chances, things, size, amounts)

    def check_optimal(self, chances, things, size, amounts):
        def sample_of(view):
            return Optimal(*view)
        middle, around = self.moments(chances, sample_of, lambda sample: exact(estimate(sample, amounts)[0]))
        self.assertEqual(middle, true_sum(things, amounts))
        told = self.told_mean(chances, sample_of, amounts)
        self.assertEqual(pair_of(told), known_optimal(things, size, amounts))
        if min(amounts.values(), default=0) >= 0:
            self.assertGreaterEqual(told, around)
        single = 0
        for item in things:
            alone = {item[0]: amounts.get(item[0], 0)}
            single += self.moments(chances, sample_of, lambda sample: exact(estimate(sample, alone)[0]))[1]
        self.assertEqual(told, single)


if __name__ == "__main__":
    unittest.main()
