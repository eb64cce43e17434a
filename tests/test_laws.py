"""Promises 17 to 20: laws, their moments, mixtures, joined and carried laws, and where laws differ."""

import itertools
import unittest
from fractions import Fraction

from oracles import exact, pair_of

from samphire.errors import InvalidLaw
from samphire.laws import (
    carried, chance_of, covariance, difference, is_law, joined, law_from, mean, mixed, same_law, variance,
)

HALF = (1, 2)
THIRD = (1, 3)
QUARTER = (1, 4)
ONE = (1, 1)
ZERO = (0, 1)
COIN = [(0, HALF), (1, HALF)]
SKEW = [(0, THIRD), (2, (2, 3))]
# All laws on the outcomes 0, 1 and 2 with quarters as chances.
QUARTERS = [
    [(outcome, pair_of(Fraction(parts[outcome], 4))) for outcome in range(3) if parts[outcome]]
    for parts in itertools.product(range(5), repeat=3) if sum(parts) == 4
]
NUMBERS = [
    [(ONE, THIRD), ((4, 1), (2, 3))],
    [((-5, 2), ONE)],
    [((7, 3), HALF), ((7, 3), HALF)],
    [((-1, 1), QUARTER), ((1, 2), QUARTER), ((-1, 1), THIRD), ((9, 1), (1, 6))],
    [((1000, 1), ZERO), ((3, 1), ONE), ((-7, 5), ZERO)],
    [(ZERO, (3, 7)), (ZERO, (4, 7))],
]


class IsLawTest(unittest.TestCase):
    def test_laws(self):
        for rows in ([("a", ONE)], COIN, SKEW, [("a", THIRD), ("b", (2, 3))], [(-3, HALF), (-1, HALF)],
                     [((0, "b"), HALF), ((1, "a"), HALF)], [((1, (2, 3)), HALF), ((1, (2, 4)), HALF)]):
            with self.subTest(rows):
                self.assertIs(is_law(rows), True)
        for rows in QUARTERS:
            self.assertIs(is_law(rows), True)

    def test_orders(self):
        self.assertIs(is_law([(1, HALF), (0, HALF)]), False)
        self.assertIs(is_law([("b", THIRD), ("a", (2, 3))]), False)
        self.assertIs(is_law([(0, THIRD), (2, THIRD), (1, THIRD)]), False)
        self.assertIs(is_law([((0, 1), HALF), ((0, 0), HALF)]), False)

    def test_repeated_outcomes(self):
        self.assertIs(is_law([(0, HALF), (0, HALF)]), False)
        self.assertIs(is_law([("a", THIRD), ("b", THIRD), ("b", THIRD)]), False)

    def test_zeros(self):
        self.assertIs(is_law([(0, ONE), (1, ZERO)]), False)
        self.assertIs(is_law([(0, ZERO), (1, ONE)]), False)

    def test_sums(self):
        self.assertIs(is_law([(0, HALF), (1, THIRD)]), False)
        self.assertIs(is_law([(0, HALF), (1, HALF), (2, HALF)]), False)
        self.assertIs(is_law([(0, (2, 1))]), False)
        self.assertIs(is_law([]), False)

    def test_below_zero(self):
        self.assertIs(is_law([(0, (3, 2)), (1, (-1, 2))]), False)
        self.assertIs(is_law([(0, (-1, 2)), (1, (3, 2))]), False)
        self.assertIs(is_law([(0, (-1, 1))]), False)

    def test_chances_that_are_not_in_lowest_terms(self):
        self.assertIs(is_law([(0, (2, 4)), (1, (2, 4))]), False)
        self.assertIs(is_law([(0, (-1, -1))]), False)


class LawFromTest(unittest.TestCase):
    def test_orders(self):
        rows = [("c", HALF), ("a", THIRD), ("b", (1, 6))]
        told = [("a", THIRD), ("b", (1, 6)), ("c", HALF)]
        for order in itertools.permutations(rows):
            self.assertEqual(law_from(list(order)), told)

    def test_repeated_outcomes(self):
        self.assertEqual(law_from([("b", HALF), ("a", THIRD), ("b", (1, 6))]), [("a", THIRD), ("b", (2, 3))])
        self.assertEqual(law_from([(7, THIRD), (7, THIRD), (7, THIRD)]), [(7, ONE)])
        self.assertEqual(law_from([((1, 2), HALF), ((0, 9), QUARTER), ((1, 2), QUARTER)]),
                         [((0, 9), QUARTER), ((1, 2), (3, 4))])

    def test_zeros_are_left_out(self):
        self.assertEqual(law_from([(0, ZERO), (1, ONE), (2, ZERO), (0, ZERO)]), [(1, ONE)])
        self.assertEqual(law_from([(0, ZERO), (0, HALF), (1, ZERO), (1, HALF)]), COIN)

    def test_a_sum_that_is_not_one(self):
        for rows in ([], [(0, HALF)], [(0, HALF), (1, THIRD)], [(0, ONE), (1, ONE)], [(0, ZERO)], [(0, (999, 1000))]):
            with self.subTest(rows):
                self.assertRaises(InvalidLaw, law_from, rows)

    def test_a_fraction_below_zero(self):
        for rows in ([(0, (-1, 2)), (1, (3, 2))], [(0, (3, 2)), (1, (-1, 2))], [(0, ONE), (0, (-1, 2)), (0, HALF)],
                     [(0, (-1, 1)), (0, ONE), (1, ONE)]):
            with self.subTest(rows):
                self.assertRaises(InvalidLaw, law_from, rows)

    def test_what_is_passed_stays(self):
        rows = [("b", HALF), ("a", ZERO), ("a", HALF)]
        law_from(rows).append(1)
        self.assertEqual(rows, [("b", HALF), ("a", ZERO), ("a", HALF)])
        wrong = [("b", HALF), ("a", ZERO)]
        self.assertRaises(InvalidLaw, law_from, wrong)
        self.assertEqual(wrong, [("b", HALF), ("a", ZERO)])

    def test_a_law_is_told_anew(self):
        for rows in QUARTERS:
            found = law_from(rows)
            self.assertEqual(found, rows)
            self.assertIsNot(found, rows)


class ChanceOfTest(unittest.TestCase):
    def test_each_outcome(self):
        rows = [("a", THIRD), ("b", (1, 6)), ("d", HALF)]
        self.assertEqual([chance_of(rows, word) for word in "abcde"], [THIRD, (1, 6), ZERO, HALF, ZERO])
        self.assertEqual([chance_of(COIN, number) for number in (-1, 0, 1, 2)], [ZERO, HALF, HALF, ZERO])
        self.assertEqual(chance_of([((1, "a"), ONE)], (1, "a")), ONE)
        self.assertEqual(chance_of([((1, "a"), ONE)], (1, "b")), ZERO)


class MomentsTest(unittest.TestCase):
    def told(self, rows):
        middle = sum((exact(number) * exact(chance) for number, chance in rows), Fraction(0))
        around = sum((exact(chance) * (exact(number) - middle) ** 2 for number, chance in rows), Fraction(0))
        return middle, around

    def test_mean_and_variance(self):
        for rows in NUMBERS:
            with self.subTest(rows):
                middle, around = self.told(rows)
                self.assertEqual((mean(rows), variance(rows)), (pair_of(middle), pair_of(around)))

    def test_certain_values(self):
        self.assertEqual((mean(NUMBERS[0]), variance(NUMBERS[0])), ((3, 1), (2, 1)))
        self.assertEqual((mean(NUMBERS[1]), variance(NUMBERS[1])), ((-5, 2), ZERO))
        self.assertEqual((mean(NUMBERS[2]), variance(NUMBERS[2])), ((7, 3), ZERO))
        self.assertEqual((mean(NUMBERS[4]), variance(NUMBERS[4])), ((3, 1), ZERO))

    def test_covariance(self):
        for rows in NUMBERS:
            for step in ((1, 1), (-2, 1), (0, 1), (3, 5)):
                with self.subTest(rows, step=step):
                    triples = []
                    for place, (number, chance) in enumerate(rows):
                        triples.append((number, pair_of(exact(step) * place * place - 4), chance))
                    others = [(other, chance) for _, other, chance in triples]
                    middle, other_middle = self.told(rows)[0], self.told(others)[0]
                    around = sum((exact(c) * (exact(a) - middle) * (exact(b) - other_middle) for a, b, c in triples),
                                 Fraction(0))
                    self.assertEqual(covariance(triples), pair_of(around))

    def test_covariance_of_a_number_with_itself_and_with_its_negative(self):
        for rows in NUMBERS:
            itself = [(number, number, chance) for number, chance in rows]
            negative = [(number, (-number[0], number[1]), chance) for number, chance in rows]
            p, q = variance(rows)
            self.assertEqual((covariance(itself), covariance(negative)), ((p, q), (-p, q)))

    def test_covariance_below_above_and_at_zero(self):
        self.assertEqual(covariance([(ZERO, ONE, HALF), (ONE, ZERO, HALF)]), (-1, 4))
        self.assertEqual(covariance([(ZERO, ZERO, HALF), (ONE, ONE, HALF)]), (1, 4))
        four = [((a, 1), (b, 1), QUARTER) for a in (0, 1) for b in (0, 1)]
        self.assertEqual(covariance(four), ZERO)

    def test_what_is_passed_stays(self):
        rows = [((4, 1), HALF), (ONE, HALF)]
        triples = [((4, 1), ONE, HALF), (ONE, (4, 1), HALF)]
        mean(rows), variance(rows), covariance(triples)
        self.assertEqual(rows, [((4, 1), HALF), (ONE, HALF)])
        self.assertEqual(triples, [((4, 1), ONE, HALF), (ONE, (4, 1), HALF)])


class MixedTest(unittest.TestCase):
    def test_two_laws(self):
        self.assertEqual(mixed([COIN, SKEW], [QUARTER, (3, 4)]), [(0, (3, 8)), (1, (1, 8)), (2, HALF)])
        self.assertEqual(mixed([COIN, COIN], [THIRD, (2, 3)]), COIN)

    def test_one_law(self):
        self.assertEqual(mixed([SKEW], [ONE]), SKEW)

    def test_chances_that_are_zero(self):
        self.assertEqual(mixed([COIN, SKEW], [ONE, ZERO]), COIN)
        self.assertEqual(mixed([COIN, SKEW], [ZERO, ONE]), SKEW)
        self.assertEqual(mixed([COIN, SKEW, COIN], [HALF, ZERO, HALF]), COIN)

    def test_by_the_definition(self):
        shares = [QUARTER, (5, 12), THIRD]
        for laws in itertools.combinations(QUARTERS, 3):
            found = mixed(list(laws), shares)
            self.assertIs(is_law(found), True)
            for outcome in range(3):
                told = sum(exact(share) * exact(chance_of(rows, outcome)) for share, rows in zip(shares, laws))
                self.assertEqual(chance_of(found, outcome), pair_of(told))

    def test_chances_that_are_none(self):
        for chances in ([HALF, THIRD], [ONE, ONE], [ZERO, ZERO], [(-1, 2), (3, 2)], [(3, 2), (-1, 2)], [(2, 1), (-1, 1)]):
            with self.subTest(chances):
                self.assertRaises(InvalidLaw, mixed, [COIN, SKEW], chances)
                self.assertRaises(InvalidLaw, mixed, [COIN, COIN], chances)
        self.assertRaises(InvalidLaw, mixed, [], [])
        self.assertRaises(InvalidLaw, mixed, [COIN], [HALF])

    def test_what_is_passed_stays(self):
        laws = [list(COIN), list(SKEW)]
        chances = [ZERO, ONE]
        mixed(laws, chances).append(1)
        self.assertEqual((laws, chances), ([COIN, SKEW], [ZERO, ONE]))


class JoinedTest(unittest.TestCase):
    def test_pairs(self):
        self.assertEqual(joined([("a", THIRD), ("b", (2, 3))], COIN),
                         [(("a", 0), (1, 6)), (("a", 1), (1, 6)), (("b", 0), THIRD), (("b", 1), THIRD)])
        self.assertEqual(joined([("a", ONE)], [((1, 2), ONE)]), [(("a", (1, 2)), ONE)])

    def test_by_the_definition(self):
        for first, second in itertools.product(QUARTERS, repeat=2):
            found = joined(first, second)
            self.assertIs(is_law(found), True)
            self.assertEqual(len(found), len(first) * len(second))
            for one, other in itertools.product(range(3), repeat=2):
                told = exact(chance_of(first, one)) * exact(chance_of(second, other))
                self.assertEqual(chance_of(found, (one, other)), pair_of(told))

    def test_what_is_passed_stays(self):
        first, second = list(COIN), list(SKEW)
        joined(first, second).clear()
        self.assertEqual((first, second), (COIN, SKEW))


class CarriedTest(unittest.TestCase):
    def test_keys_and_others(self):
        rows = [("a", THIRD), ("b", (1, 6)), ("c", HALF)]
        self.assertEqual(carried(rows, {}), rows)
        self.assertEqual(carried(rows, {"a": "z", "q": "a"}), [("b", (1, 6)), ("c", HALF), ("z", THIRD)])
        self.assertEqual(carried(rows, {"a": "b"}), [("b", HALF), ("c", HALF)])
        self.assertEqual(carried(rows, {"a": "x", "b": "x", "c": "x"}), [("x", ONE)])

    def test_each_outcome_is_carried_once(self):
        rows = [("a", THIRD), ("b", (2, 3))]
        self.assertEqual(carried(rows, {"a": "b", "b": "a"}), [("a", (2, 3)), ("b", THIRD)])
        self.assertEqual(carried(rows, {"a": "b", "b": "c"}), [("b", THIRD), ("c", (2, 3))])

    def test_zero_as_a_value(self):
        self.assertEqual(carried([(1, HALF), (2, HALF)], {2: 0}), [(0, HALF), (1, HALF)])

    def test_what_is_passed_stays(self):
        rows, table = list(COIN), {0: 5}
        carried(rows, table).clear()
        carried(rows, {}).clear()
        self.assertEqual((rows, table), (COIN, {0: 5}))


class DifferenceTest(unittest.TestCase):
    def test_all_pairs(self):
        for first, second in itertools.product(QUARTERS, repeat=2):
            with self.subTest(first=first, second=second):
                apart = [outcome for outcome in range(3) if chance_of(first, outcome) != chance_of(second, outcome)]
                self.assertIs(same_law(first, second), not apart)
                self.assertEqual(difference(first, second), min(apart, default=None))

    def test_an_outcome_that_only_one_has(self):
        rows = [("b", HALF), ("d", HALF)]
        self.assertEqual(difference(rows, [("a", HALF), ("b", HALF)]), "a")
        self.assertEqual(difference([("a", HALF), ("b", HALF)], rows), "a")
        self.assertEqual(difference(rows, [("b", HALF), ("c", HALF)]), "c")
        self.assertEqual(difference([("b", HALF), ("c", HALF)], rows), "c")
        self.assertEqual(difference(rows, [("b", HALF), ("d", QUARTER), ("e", QUARTER)]), "d")
        self.assertEqual(difference(rows, [("d", ONE)]), "b")
        self.assertIsNone(difference(rows, list(rows)))

    def test_tuples(self):
        self.assertEqual(difference([((0, "a"), ONE)], [((0, "b"), ONE)]), (0, "a"))

    def test_what_is_passed_stays(self):
        first, second = list(COIN), list(SKEW)
        difference(first, second), same_law(first, second)
        self.assertEqual((first, second), (COIN, SKEW))


if __name__ == "__main__":
    unittest.main()
