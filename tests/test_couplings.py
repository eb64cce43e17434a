"""Promises 51 to 55: couplings, the greatest mass, bounds of sets, the least set, and the distance."""

import itertools
import unittest
from fractions import Fraction

from oracles import exact, exact_rows, pair_of, rows_of

from samphire.couplings import (
    couple, differs_most, distance, equal_pairs, is_coupling, shared, shows_most,
)
from samphire.dice import Mixer
from samphire.laws import joined, law_from
from samphire.uniform import uniform_law
from samphire.weighted import weighted_law

HALVES = [(1, (1, 2)), (2, (1, 2))]
THIRDS = [(1, (1, 3)), (2, (1, 3)), (3, (1, 3))]
WORDS = [("", (1, 6)), ("a", (1, 3)), ("b", (1, 2))]
TUPLES = [((1, ("x", 2)), (1, 4)), ((1, ("x", 3)), (1, 12)), ((1, ("y", 0)), (5, 12)), ((2, ("a", 9)), (1, 4))]
SURE = [(2, (1, 1))]
LAWS = [HALVES, THIRDS, WORDS, TUPLES, SURE]


def outcomes_of(rows):
    return [outcome for outcome, _ in rows]


def all_pairs(first, second):
    return list(itertools.product(outcomes_of(first), outcomes_of(second)))


def subsets(things):
    return [list(chosen) for many in range(len(things) + 1) for chosen in itertools.combinations(things, many)]


def bound_of(first, second, pairs, outcomes):
    """The bound of a set, by its definition."""
    ones, others = exact_rows(first), exact_rows(second)
    neighbours = {other for outcome, other in pairs if outcome in outcomes}
    return 1 - sum(ones[outcome] for outcome in outcomes) + sum(others[other] for other in neighbours)


def couples(first, second, rows):
    """True if the rows are a coupling, by the definition."""
    pairs = [(outcome, other) for outcome, other, _ in rows]
    if pairs != sorted(set(pairs)) or any(exact(chance) <= 0 for _, _, chance in rows):
        return False
    for side, told in enumerate((first, second)):
        found = {}
        for row in rows:
            found[row[side]] = found.get(row[side], 0) + exact(row[2])
        if found != exact_rows(told):
            return False
    return True


class IsCouplingTest(unittest.TestCase):
    ROWS = [(1, 1, (1, 3)), (1, 2, (1, 6)), (2, 2, (1, 6)), (2, 3, (1, 3))]

    def check(self, rows, told, first=HALVES, second=THIRDS):
        given = list(rows)
        self.assertIs(is_coupling(first, second, rows), told)
        self.assertEqual(rows, given)

    def test_couplings(self):
        self.check(self.ROWS, True)
        self.check([(1, 2, (1, 3)), (1, 3, (1, 6)), (2, 1, (1, 3)), (2, 3, (1, 6))], True)
        for first, second in itertools.product(LAWS, repeat=2):
            rows = [(one, other, pair_of(exact(chance) * exact(share))) for one, chance in first for other, share in second]
            self.check(rows, True, first, second)

    def test_the_order(self):
        for order in itertools.permutations(self.ROWS):
            self.check(list(order), list(order) == self.ROWS)

    def test_a_pair_twice(self):
        self.check([(1, 1, (1, 3)), (1, 2, (1, 12)), (1, 2, (1, 12)), (2, 2, (1, 6)), (2, 3, (1, 3))], False)

    def test_a_chance_of_zero_or_below(self):
        self.check(self.ROWS[:2] + [(1, 3, (0, 1))] + self.ROWS[2:], False)
        rows = [(1, 1, (1, 2)), (1, 2, (1, 6)), (1, 3, (-1, 6)), (2, 1, (-1, 6)), (2, 2, (1, 6)), (2, 3, (1, 2))]
        self.check(rows, False)

    def test_a_chance_that_is_not_in_lowest_terms(self):
        self.check([(1, 1, (2, 6))] + self.ROWS[1:], False)

    def test_an_outcome_that_is_none_of_its_law(self):
        self.check([(0, 1, (1, 6))] + self.ROWS, False)
        self.check(self.ROWS + [(3, 1, (1, 6))], False)
        self.check(self.ROWS + [(2, 4, (1, 6))], False)
        self.check([(1, 0, (1, 6))] + self.ROWS, False)
        # Outcomes of the other law are none of this one.
        self.check([(1, 1, (1, 3)), (2, 2, (1, 3)), (3, 1, (1, 6)), (3, 2, (1, 6))], False)
        self.check([(1, 1, (1, 3)), (2, 2, (1, 3)), (3, 1, (1, 6)), (3, 2, (1, 6))], True, THIRDS, HALVES)

    def test_sums_that_are_not_the_chances(self):
        self.check([], False)
        self.check(self.ROWS[:3], False)
        self.check(self.ROWS[1:], False)
        # The sums of one law are right each time, those of the other one are not.
        self.check([(1, 1, (1, 4)), (1, 2, (1, 4)), (2, 2, (1, 4)), (2, 3, (1, 4))], False)
        self.check([(1, 1, (1, 3)), (1, 2, (1, 3)), (2, 3, (1, 3))], False)
        self.check([(1, 1, (1, 4)), (1, 2, (1, 4)), (2, 1, (1, 4)), (2, 2, (1, 4))], False)

    def test_by_the_definition(self):
        pairs = all_pairs(HALVES, HALVES)
        parts = [None, (1, 4), (1, 2), (0, 1)]
        for chances in itertools.product(parts, repeat=4):
            rows = [(*pair, chance) for pair, chance in zip(pairs, chances) if chance]
            self.check(rows, couples(HALVES, HALVES, rows), HALVES, HALVES)


class SharedTest(unittest.TestCase):
    def test_certain_values(self):
        rows = IsCouplingTest.ROWS
        self.assertEqual(shared(rows, []), (0, 1))
        self.assertEqual(shared(rows, [(1, 1), (2, 2)]), (1, 2))
        self.assertEqual(shared(rows, [(2, 2), (1, 3), (2, 1), (1, 1)]), (1, 2))
        self.assertEqual(shared(rows, all_pairs(HALVES, THIRDS)), (1, 1))
        self.assertEqual(shared(rows, [(1, 3), (2, 1)]), (0, 1))

    def test_the_sides_are_not_mixed_up(self):
        self.assertEqual(shared([(1, 2, (1, 1))], [(2, 1)]), (0, 1))
        self.assertEqual(shared([("1", 2, (1, 1))], [("1", "2")]), (0, 1))
        self.assertEqual(shared([("1", "2", (1, 1))], [("1", "2")]), (1, 1))

    def test_what_is_passed_stays(self):
        rows, pairs = list(IsCouplingTest.ROWS), [(2, 2), (1, 1)]
        shared(rows, pairs)
        self.assertEqual((rows, pairs), (IsCouplingTest.ROWS, [(2, 2), (1, 1)]))


class CoupleTest(unittest.TestCase):
    def check(self, first, second, pairs):
        given = (list(first), list(second), list(pairs))
        mass, rows, outcomes = couple(first, second, pairs)
        self.assertEqual((first, second, pairs), given)
        self.assertTrue(couples(first, second, rows))
        self.assertTrue(is_coupling(first, second, rows))
        self.assertEqual(shared(rows, pairs), mass)
        sets = subsets(outcomes_of(first))
        bounds = [bound_of(first, second, pairs, chosen) for chosen in sets]
        self.assertEqual(exact(mass), min(bounds))
        least = set.intersection(*[set(chosen) for chosen, bound in zip(sets, bounds) if bound == min(bounds)])
        self.assertEqual(outcomes, sorted(least))
        if mass == (1, 1):
            self.assertEqual(outcomes, [])
        self.assertEqual(shows_most(first, second, pairs, outcomes), mass)
        return mass, outcomes

    def test_certain_values(self):
        self.assertEqual(self.check(HALVES, THIRDS, [(1, 1), (2, 2), (2, 3)]), ((5, 6), [1]))
        self.assertEqual(self.check(THIRDS, HALVES, [(1, 1), (2, 2), (2, 1), (3, 2)]), ((1, 1), []))
        self.assertEqual(self.check(THIRDS, HALVES, [(2, 2), (3, 2)]), ((1, 2), [1, 2, 3]))

    def test_all_sets_of_pairs(self):
        for first, second in ((HALVES, THIRDS), (THIRDS, HALVES), (HALVES, WORDS), (SURE, TUPLES), (TUPLES, SURE)):
            for pairs in subsets(all_pairs(first, second)):
                self.check(first, second, pairs)

    def test_pairs_in_any_order(self):
        pairs = [(1, "a"), (2, "b"), (3, "b"), (3, "")]
        told = self.check(THIRDS, WORDS, pairs)
        for order in itertools.permutations(pairs):
            self.assertEqual(self.check(THIRDS, WORDS, list(order)), told)

    def test_no_pairs(self):
        for first, second in itertools.product(LAWS, repeat=2):
            self.assertEqual(self.check(first, second, []), ((0, 1), outcomes_of(first)))

    def test_all_pairs(self):
        for first, second in itertools.product(LAWS, repeat=2):
            self.assertEqual(self.check(first, second, all_pairs(first, second)), ((1, 1), []))

    def test_outcomes_of_any_form(self):
        dice = Mixer(11)
        for first, second in itertools.product(LAWS, repeat=2):
            for _ in range(8):
                self.check(first, second, [pair for pair in all_pairs(first, second) if dice.pick([1, 1])])

    def test_outcomes_that_are_written_alike(self):
        digits = [("1", (1, 2)), ("2", (1, 2))]
        self.assertEqual(self.check(HALVES, digits, [(1, "2"), (2, "1")]), ((1, 1), []))
        quotes = [("'", (1, 4)), ("', '", (1, 4)), ("\\'", (1, 2))]
        self.assertEqual(self.check(quotes, digits, [("'", "1"), ("\\'", "1")]), ((1, 2), ["'", "', '", "\\'"]))

    def test_chances_with_various_denominators(self):
        dice = Mixer(5)
        for _ in range(60):
            laws = []
            for _ in range(2):
                parts = [dice.pick([1] * 30) + 1 for _ in range(dice.pick([1] * 4) + 1)]
                laws.append([(place, pair_of(Fraction(part, sum(parts)))) for place, part in enumerate(parts)])
            first, second = laws
            self.check(first, second, [pair for pair in all_pairs(first, second) if dice.pick([1, 1])])

    def test_deep_outcomes(self):
        law = HALVES
        for _ in range(5):
            law = law_from([((outcome, "x"), chance) for outcome, chance in joined(law, SURE)])
        self.check(law, THIRDS, [(law[0][0], 1), (law[1][0], 3)])
        self.assertEqual((distance(law, law), len(equal_pairs(law, law))), ((0, 1), 2))

    def test_a_larger_law(self):
        items = [(f"k{number}", "g", number + 1, 0) for number in range(5)]
        first, second = weighted_law(items, 3), weighted_law([(key, "g", 1, 0) for key, _, _, _ in items], 3)
        pairs = [(one, other) for one, other in all_pairs(first, second)
                 if {item[0] for item in one[2]} == {item[0] for item in other[2]}]
        mass, rows, outcomes = couple(first, second, pairs)
        self.assertTrue(is_coupling(first, second, rows))
        self.assertEqual(shared(rows, pairs), mass)
        self.assertEqual(pair_of(bound_of(first, second, pairs, outcomes)), mass)

    def test_what_is_returned_is_new(self):
        pairs = [(1, 1), (2, 2), (2, 3)]
        mass, rows, outcomes = couple(HALVES, THIRDS, pairs)
        rows.clear()
        outcomes.clear()
        self.check(HALVES, THIRDS, pairs)


class ShowsMostTest(unittest.TestCase):
    def test_certain_values(self):
        pairs = [(1, 1), (2, 2), (2, 3)]
        self.assertEqual(shows_most(HALVES, THIRDS, pairs, [1, 2]), (1, 1))
        self.assertEqual(shows_most(HALVES, THIRDS, pairs, [1]), (5, 6))
        self.assertEqual(shows_most(HALVES, THIRDS, pairs, [2]), (7, 6))

    def test_the_empty_set(self):
        for first, second in itertools.product(LAWS, repeat=2):
            for pairs in ([], all_pairs(first, second)):
                self.assertEqual(shows_most(first, second, pairs, []), (1, 1))

    def test_sets_in_any_order(self):
        dice = Mixer(2)
        for first, second in itertools.product(LAWS, repeat=2):
            pairs = [pair for pair in all_pairs(first, second) if dice.pick([1, 1])]
            for chosen in subsets(outcomes_of(first)):
                told = pair_of(bound_of(first, second, pairs, chosen))
                for order in itertools.permutations(chosen):
                    self.assertEqual(shows_most(first, second, pairs, list(order)), told)

    def test_what_is_passed_stays(self):
        outcomes, pairs = [2, 1], [(2, 3), (1, 1)]
        shows_most(HALVES, THIRDS, pairs, outcomes)
        self.assertEqual((outcomes, pairs), ([2, 1], [(2, 3), (1, 1)]))


class DistanceTest(unittest.TestCase):
    OTHERS = [(2, (1, 6)), (3, (1, 2)), (5, (1, 3))]
    ROWS = [HALVES, THIRDS, SURE, OTHERS]

    def test_certain_values(self):
        self.assertEqual((distance(HALVES, THIRDS), distance(THIRDS, HALVES)), ((1, 3), (1, 3)))
        self.assertEqual((differs_most(HALVES, THIRDS), differs_most(THIRDS, HALVES)), ([1, 2], [3]))
        self.assertEqual(equal_pairs(HALVES, THIRDS), [(1, 1), (2, 2)])
        self.assertEqual(equal_pairs(THIRDS, self.OTHERS), [(2, 2), (3, 3)])
        self.assertEqual(differs_most(THIRDS, self.OTHERS), [1, 2])
        self.assertEqual(distance(THIRDS, self.OTHERS), (1, 2))

    def test_a_law_from_itself(self):
        for rows in LAWS:
            self.assertEqual((distance(rows, list(rows)), differs_most(rows, list(rows))), ((0, 1), []))
            self.assertEqual(equal_pairs(rows, rows), [(outcome, outcome) for outcome, _ in rows])

    def test_laws_without_a_common_outcome(self):
        for first, second in ((HALVES, [(3, (1, 1))]), (HALVES, WORDS), (TUPLES, WORDS), (TUPLES, THIRDS)):
            for one, other in ((first, second), (second, first)):
                self.assertEqual((distance(one, other), equal_pairs(one, other)), ((1, 1), []))
                self.assertEqual(differs_most(one, other), outcomes_of(one))

    def test_zero_exactly_for_equal_laws_and_alike_in_both_directions(self):
        for first, second in itertools.product(self.ROWS, repeat=2):
            self.assertEqual(distance(first, second), distance(second, first))
            self.assertEqual(distance(first, second) == (0, 1), first == second)

    def test_the_greatest_mass_of_equal_outcomes(self):
        for first, second in itertools.product(LAWS + self.ROWS, repeat=2):
            mass = couple(first, second, equal_pairs(first, second))[0]
            self.assertEqual(exact(distance(first, second)), 1 - exact(mass))

    def test_means_of_functions_between_zero_and_one(self):
        for first, second in itertools.product(self.ROWS, repeat=2):
            ones, others = exact_rows(first), exact_rows(second)
            outcomes = sorted(set(ones) | set(others))
            told = exact(distance(first, second))
            for values in itertools.product((Fraction(0), Fraction(1, 2), Fraction(1)), repeat=len(outcomes)):
                found = sum(value * (ones.get(outcome, 0) - others.get(outcome, 0))
                            for outcome, value in zip(outcomes, values))
                self.assertLessEqual(abs(found), told)
            most = differs_most(first, second)
            self.assertEqual(sum(ones[outcome] - others.get(outcome, 0) for outcome in most), told)
            self.assertEqual(most, [outcome for outcome in sorted(ones) if ones[outcome] > others.get(outcome, 0)])

    def test_laws_of_samples(self):
        items = [(f"k{number}", "g", 1, 0) for number in range(4)]
        heavy = [("k0", "g", 5, 0)] + items[1:]
        self.assertEqual(distance(uniform_law(items, 2), uniform_law(items[::-1], 2)), (0, 1))
        carried = rows_of({tuple(item[0] for item in view[2]): exact(chance) for view, chance in weighted_law(items, 1)})
        other = rows_of({tuple(item[0] for item in view[2]): exact(chance) for view, chance in weighted_law(heavy, 1)})
        self.assertEqual(distance(carried, other), (3, 8))
        self.assertEqual(differs_most(other, carried), [("k0",)])

    def test_what_is_passed_stays_and_what_is_returned_is_new(self):
        first, second = list(HALVES), list(THIRDS)
        equal_pairs(first, second).clear()
        differs_most(first, second).clear()
        distance(first, second)
        self.assertEqual((first, second), (HALVES, THIRDS))
        self.assertEqual(len(equal_pairs(first, second)), 2)


if __name__ == "__main__":
    unittest.main()
