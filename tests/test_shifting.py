"""Promises 49 and 50: drawing anew, tables of losses, the greatest and the least mean, ceilings and floors."""

import itertools
import unittest
from fractions import Fraction

from oracles import exact, pair_of, rows_of

from samphire.laws import is_law, law_from, mean
from samphire.shifting import (
    accepts_ceilings, accepts_floors, arrived, ceilings, floors, greatest, least, mean_by,
)

ZERO, ONE = (0, 1), (1, 1)
COIN = [(ZERO, (1, 2)), (ONE, (1, 2))]
THREE = [((-2, 1), (1, 6)), ((1, 2), (1, 2)), ((5, 3), (1, 3))]
# The order of a law is that of its outcomes as tuples: (1, 2) stands ahead of (1, 3).
THIRDS = [((1, 2), (1, 4)), ((1, 3), (1, 4)), ((2, 3), (1, 2))]
SURE = [((7, 2), (1, 1))]
LAWS = [COIN, THREE, THIRDS, SURE]


def by_draws(rows, retries, lost):
    """The chances of what arrives, drawn try by try."""
    found = {}
    for number, chance in rows:
        if retries and (retries, number) in lost:
            for other, share in by_draws(rows, retries - 1, lost).items():
                found[other] = found.get(other, 0) + exact(chance) * share
        else:
            found[number] = found.get(number, 0) + exact(chance)
    return found


def mean_of(chances):
    return sum(exact(number) * chance for number, chance in chances.items())


def all_tables(rows, retries):
    pairs = [(left, number) for left in range(1, retries + 1) for number, _ in rows]
    for many in range(len(pairs) + 1):
        yield from itertools.combinations(pairs, many)


def lower(fraction):
    return pair_of(exact(fraction) - Fraction(1, 10 ** 30))


def higher(fraction):
    return pair_of(exact(fraction) + Fraction(1, 10 ** 30))


class ArrivedTest(unittest.TestCase):
    def check(self, rows, retries, lost):
        chances = by_draws(rows, retries, lost)
        found = arrived(rows, retries, list(lost))
        self.assertEqual(found, rows_of(chances))
        self.assertTrue(is_law(found))
        self.assertEqual(mean_by(rows, retries, list(lost)), pair_of(mean_of(chances)))

    def test_certain_values(self):
        self.assertEqual(arrived(COIN, 1, [(1, ZERO)]), [(ZERO, (1, 4)), (ONE, (3, 4))])
        self.assertEqual(mean_by(COIN, 1, [(1, ZERO)]), (3, 4))
        self.assertEqual(arrived(COIN, 2, [(1, ZERO)]), COIN)
        self.assertEqual(arrived(COIN, 2, [(2, ZERO)]), [(ZERO, (1, 4)), (ONE, (3, 4))])
        self.assertEqual(arrived(COIN, 2, [(1, ZERO), (2, ZERO)]), [(ZERO, (1, 8)), (ONE, (7, 8))])
        self.assertEqual(arrived(COIN, 2, [(1, ONE), (2, ZERO)]), [(ZERO, (3, 8)), (ONE, (5, 8))])

    def test_no_retries(self):
        for rows in LAWS:
            for lost in ([], [(0, rows[0][0])], [(1, rows[0][0]), (0, rows[-1][0])]):
                self.assertEqual(arrived(rows, 0, lost), rows)
                self.assertEqual(mean_by(rows, 0, lost), mean(rows))

    def test_all_tables(self):
        for rows in LAWS:
            for retries in (0, 1, 2):
                for lost in all_tables(rows, retries):
                    self.check(rows, retries, lost)

    def test_several_retries(self):
        for rows in LAWS:
            numbers = [number for number, _ in rows]
            for retries in (3, 5):
                self.check(rows, retries, [(left, numbers[left % len(numbers)]) for left in range(1, retries + 1)])
                self.check(rows, retries, [(left, numbers[0]) for left in (1, 3)])

    def test_the_empty_table(self):
        for rows in LAWS:
            for retries in (0, 1, 4, 12):
                self.assertEqual(arrived(rows, retries, []), rows)

    def test_all_numbers_are_lost(self):
        for rows in LAWS:
            for retries in (1, 3):
                lost = [(left, number) for left in range(1, retries + 1) for number, _ in rows]
                self.assertEqual(arrived(rows, retries, lost), rows)

    def test_pairs_that_are_out_of_range(self):
        for rows in LAWS:
            number = rows[0][0]
            for retries in (1, 2, 3):
                told = arrived(rows, retries, [(1, number)])
                for more in ([(0, number)], [(-1, number)], [(retries + 1, number)], [(99, number), (0, rows[-1][0])]):
                    self.assertEqual(arrived(rows, retries, more), rows)
                    self.assertEqual(arrived(rows, retries, more + [(1, number)]), told)
                    self.assertEqual(mean_by(rows, retries, [(1, number)] + more), mean(told))

    def test_numbers_that_the_law_has_not(self):
        for rows in LAWS:
            told = arrived(rows, 2, [(2, rows[-1][0])])
            for more in ([(1, (99, 1))], [(2, (-1, 7)), (1, (-1, 7))]):
                self.assertEqual(arrived(rows, 2, more), rows)
                self.assertEqual(arrived(rows, 2, more + [(2, rows[-1][0])]), told)

    def test_a_pair_twice(self):
        for rows in LAWS:
            pair = (1, rows[0][0])
            self.assertEqual(arrived(rows, 2, [pair, pair]), arrived(rows, 2, [pair]))
            self.assertEqual(mean_by(rows, 2, [pair, pair, pair]), mean_by(rows, 2, [pair]))

    def test_the_order_of_the_table_does_not_matter(self):
        lost = [(1, (-2, 1)), (2, (1, 2)), (2, (-2, 1))]
        for order in itertools.permutations(lost):
            self.assertEqual(arrived(THREE, 2, list(order)), arrived(THREE, 2, lost))

    def test_what_is_passed_stays_and_what_is_returned_is_new(self):
        for retries in (0, 2):
            rows, lost = list(THREE), [(2, (1, 2)), (1, (1, 2))]
            arrived(rows, retries, lost).clear()
            mean_by(rows, retries, lost)
            self.assertEqual((rows, lost), (THREE, [(2, (1, 2)), (1, (1, 2))]))

    def test_the_greatest_number_of_retries(self):
        lost = [(left, ZERO) for left in range(1, 13)]
        self.assertEqual(arrived(COIN, 12, lost), [(ZERO, (1, 8192)), (ONE, (8191, 8192))])


class GreatestTest(unittest.TestCase):
    def test_certain_values(self):
        self.assertEqual(greatest(COIN, 1), ((3, 4), [(1, ZERO)]))
        self.assertEqual(greatest(COIN, 2), ((7, 8), [(1, ZERO), (2, ZERO)]))
        self.assertEqual(least(COIN, 2), ((1, 8), [(1, ONE), (2, ONE)]))
        # The mean of THREE is 17/36, so with one retry left only -2 is less; 1/2 is less than what that gives.
        self.assertEqual(greatest(THREE, 2)[1], [(1, (-2, 1)), (2, (-2, 1)), (2, (1, 2))])
        self.assertEqual(least(THREE, 1)[1], [(1, (1, 2)), (1, (5, 3))])

    def test_no_retries(self):
        for rows in LAWS:
            self.assertEqual((greatest(rows, 0), least(rows, 0)), ((mean(rows), []), (mean(rows), [])))

    def test_a_law_of_one_number(self):
        for retries in (0, 1, 12):
            self.assertEqual((greatest(SURE, retries), least(SURE, retries)), (((7, 2), []), ((7, 2), [])))

    def test_a_number_that_is_the_mean_is_not_lost(self):
        rows = [((0, 1), (1, 3)), ((1, 1), (1, 3)), ((2, 1), (1, 3))]
        self.assertEqual(greatest(rows, 1), ((4, 3), [(1, (0, 1))]))
        self.assertEqual(least(rows, 1), ((2, 3), [(1, (2, 1))]))

    def test_no_table_has_a_greater_mean_or_a_lesser_one(self):
        for rows in LAWS:
            for retries in (0, 1, 2, 3):
                means = [mean_of(by_draws(rows, retries, lost)) for lost in all_tables(rows, retries)]
                for found, told in ((greatest, max(means)), (least, min(means))):
                    value, lost = found(rows, retries)
                    self.assertEqual(exact(value), told)
                    self.assertEqual(mean_of(by_draws(rows, retries, lost)), told)

    def test_the_table_that_the_facts_name_ascending(self):
        for rows in LAWS:
            for retries in (1, 2, 3, 5, 12):
                high, low = [], []
                for left in range(1, retries + 1):
                    upper, under = exact(greatest(rows, left - 1)[0]), exact(least(rows, left - 1)[0])
                    high += [(left, number) for number, _ in rows if exact(number) < upper]
                    low += [(left, number) for number, _ in rows if exact(number) > under]
                self.assertEqual(greatest(rows, retries)[1], sorted(high))
                self.assertEqual(least(rows, retries)[1], sorted(low))
                self.assertEqual(mean_by(rows, retries, high), greatest(rows, retries)[0])
                self.assertEqual(mean_by(rows, retries, low), least(rows, retries)[0])

    def test_what_is_passed_stays(self):
        rows = list(THREE)
        for found in (greatest, least):
            found(rows, 3)[1].clear()
            self.assertEqual(rows, THREE)
            self.assertTrue(found(rows, 3)[1])


class BoundsTest(unittest.TestCase):
    def test_certain_values(self):
        self.assertEqual(ceilings(COIN, 3), [(1, 2), (3, 4), (7, 8), (15, 16)])
        self.assertEqual(floors(COIN, 3), [(1, 2), (1, 4), (1, 8), (1, 16)])

    def test_the_greatest_and_the_least_means(self):
        for rows in LAWS:
            for retries in (0, 1, 2, 3, 12):
                told = range(retries + 1)
                self.assertEqual(ceilings(rows, retries), [greatest(rows, number)[0] for number in told])
                self.assertEqual(floors(rows, retries), [least(rows, number)[0] for number in told])
            self.assertEqual((ceilings(rows, 0), floors(rows, 0)), ([mean(rows)], [mean(rows)]))

    def test_the_lists_that_are_made_are_accepted(self):
        for rows in LAWS:
            for retries in (0, 1, 2, 7, 12):
                self.assertIs(accepts_ceilings(rows, ceilings(rows, retries)), True)
                self.assertIs(accepts_floors(rows, floors(rows, retries)), True)

    def test_one_fraction_a_little_beyond(self):
        for rows in LAWS:
            for retries in (0, 1, 3):
                for place in range(retries + 1):
                    bounds = ceilings(rows, retries)
                    bounds[place] = lower(bounds[place])
                    self.assertIs(accepts_ceilings(rows, bounds), False)
                    bounds = floors(rows, retries)
                    bounds[place] = higher(bounds[place])
                    self.assertIs(accepts_floors(rows, bounds), False)

    def test_one_fraction_a_little_too_generous(self):
        # What stands behind it must then be more generous, too, but for the last one.
        for rows in (COIN, THREE):
            bounds = ceilings(rows, 3)
            bounds[3] = higher(bounds[3])
            self.assertIs(accepts_ceilings(rows, bounds), True)
            bounds[1] = higher(bounds[1])
            self.assertIs(accepts_ceilings(rows, bounds), False)
            bounds = floors(rows, 3)
            bounds[3] = lower(bounds[3])
            self.assertIs(accepts_floors(rows, bounds), True)
            bounds[1] = lower(bounds[1])
            self.assertIs(accepts_floors(rows, bounds), False)

    def test_by_the_definition(self):
        for rows in (COIN, THREE, THIRDS):
            numbers = [Fraction(number, 12) for number in range(-4, 22)]
            for first, second in itertools.product(numbers, repeat=2):
                middle = sum(exact(number) * exact(chance) for number, chance in rows)
                above = sum(max(exact(number), first) * exact(chance) for number, chance in rows)
                below = sum(min(exact(number), first) * exact(chance) for number, chance in rows)
                bounds = [pair_of(first), pair_of(second)]
                self.assertIs(accepts_ceilings(rows, bounds), first >= middle and second >= above)
                self.assertIs(accepts_floors(rows, bounds), first <= middle and second <= below)

    def test_the_empty_list(self):
        for rows in LAWS:
            self.assertIs(accepts_ceilings(rows, []), True)
            self.assertIs(accepts_floors(rows, []), True)

    def test_accepted_lists_bound_all_tables(self):
        rows = THREE
        bounds = [(1, 1), (3, 2), (5, 3)]
        self.assertTrue(accepts_ceilings(rows, bounds))
        for retries in (0, 1, 2):
            for lost in all_tables(rows, retries):
                self.assertLessEqual(mean_of(by_draws(rows, retries, lost)), exact(bounds[retries]))

    def test_what_is_passed_stays_and_what_is_returned_is_new(self):
        rows, bounds = list(THREE), ceilings(THREE, 2)
        told = list(bounds)
        accepts_ceilings(rows, bounds)
        accepts_floors(rows, bounds)
        ceilings(rows, 2).clear()
        floors(rows, 2).clear()
        self.assertEqual((rows, bounds, ceilings(rows, 2)), (THREE, told, told))

    def test_a_larger_law(self):
        rows = law_from([((number * 7 % 101, 1), (1, 101)) for number in range(101)])
        value, lost = greatest(rows, 12)
        self.assertEqual(mean_by(rows, 12, lost), value)
        self.assertTrue(accepts_ceilings(rows, ceilings(rows, 12)))


if __name__ == "__main__":
    unittest.main()
