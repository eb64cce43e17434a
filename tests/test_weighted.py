"""Promises 26 to 30: weighted samples, their plain law and their merge, and the chances of orders and sets."""

import itertools
import unittest
from fractions import Fraction

from oracles import NoDice, Watched, chances_of, exact, exact_rows, pair_of, rows_of

from samphire.dice import Mixer, Tape
from samphire.errors import InvalidSize, SharedKey, WrongKind
from samphire.laws import is_law, joined, law_from
from samphire.uniform import Uniform
from samphire.weighted import Weighted, order_chance, set_chance, weighted_law, weighted_merge

A, B, C, D, E = [("a", "g", 2, 5), ("b", "g", 1, 7), ("c", "h", 3, -4), ("d", "h", 5, 0), ("e", "g", 3, 1)]
THINGS = [A, B, C, D, E]


def sample_of(view):
    return Weighted(view[0], view[1], list(view[2]))


def told_chance(total, order):
    """The chance of an order by its definition."""
    chance = Fraction(1)
    for place, item in enumerate(order):
        chance *= Fraction(item[2], total - sum(other[2] for other in order[:place]))
    return chance


def draw_plainly(things, size):
    """The drawing of items by their weights, one after the other."""
    def draw(dice):
        left = list(things)
        kept = []
        while left and len(kept) < size:
            kept.append(left.pop(dice.pick([item[2] for item in left])))
        return (size, sum(item[2] for item in things), tuple(kept))
    return draw


def merged_rows(rows, other, first=True):
    """The law of the view when a sample with a law is merged with a sample, as the first one or the second one."""
    found = []
    for view, chance in rows:
        pair = (sample_of(view), other) if first else (other, sample_of(view))
        for further, share in weighted_merge(*pair):
            found.append((further, pair_of(exact(chance) * exact(share))))
    return law_from(found)


class MadeTest(unittest.TestCase):
    def test_attributes_and_view(self):
        sample = Weighted(2, 11, [D, A])
        self.assertEqual((sample.size, sample.total, sample.kept), (2, 11, [D, A]))
        self.assertEqual(sample.view(), (2, 11, (D, A)))

    def test_the_list_is_copied(self):
        kept = [D, A]
        sample = Weighted(2, 11, kept)
        kept[0] = B
        kept.append(C)
        self.assertEqual((sample.kept, sample.view()), ([D, A], (2, 11, (D, A))))
        sample.kept.append(E)
        self.assertEqual(kept, [B, A, C])

    def test_empty_and_single(self):
        for size in (1, 2, 19, 20):
            with self.subTest(size):
                self.assertIsInstance(Weighted.empty(size), Weighted)
                self.assertEqual(Weighted.empty(size).view(), (size, 0, ()))
                self.assertEqual(Weighted.single(D, size).view(), (size, 5, (D,)))
                self.assertEqual((Weighted.empty(size).kept, Weighted.single(D, size).kept), ([], [D]))

    def test_sizes_that_are_none(self):
        for size in (-1, 0, 21, 1000):
            for make in (lambda size: Weighted.empty(size), lambda size: Weighted.single(A, size)):
                with self.assertRaises(InvalidSize) as caught:
                    make(size)
                self.assertEqual(caught.exception.size, size)


class MergeTest(unittest.TestCase):
    def test_two_single_ones(self):
        one, other = Weighted.single(A, 1), Weighted.single(C, 1)
        self.assertEqual([one.merge(other, Tape([at])).view() for at in range(5)],
                         [(1, 5, (A,))] * 2 + [(1, 5, (C,))] * 3)
        self.assertEqual([other.merge(one, Tape([at])).view() for at in range(5)],
                         [(1, 5, (C,))] * 3 + [(1, 5, (A,))] * 2)
        self.assertIsInstance(one.merge(other, Tape([0])), Weighted)

    def test_the_order_of_each_sample_stays(self):
        one, other = Weighted(4, 7, [D, A]), Weighted(4, 4, [C, B])
        found = {one.merge(other, Tape(numbers)).kept[0] for numbers in ([0], [6], [7], [10])}
        self.assertEqual(found, {D, C})
        self.assertEqual(one.merge(other, Tape([6, 1, 0])).view(), (4, 11, (D, A, C, B)))
        self.assertEqual(one.merge(other, Tape([7, 7, 0])).view(), (4, 11, (C, B, D, A)))
        self.assertEqual(one.merge(other, Tape([10, 0, 2, 0])).view(), (4, 11, (C, D, B, A)))

    def test_totals_that_are_greater_than_the_weights_kept(self):
        one, other = Weighted(2, 20, [B, A]), Weighted(2, 9, [D, C])
        self.assertEqual(one.merge(other, Tape([19, 18])).view(), (2, 29, (B, A)))
        self.assertEqual(one.merge(other, Tape([19, 19])).view(), (2, 29, (B, D)))
        self.assertEqual(one.merge(other, Tape([20, 19])).view(), (2, 29, (D, B)))
        self.assertEqual(one.merge(other, Tape([28, 23])).view(), (2, 29, (D, C)))

    def test_what_the_dice_are_asked(self):
        dice = Watched(Tape([0, 27, 0]))
        merged = Weighted(3, 20, [B, A, C]).merge(Weighted(3, 9, [D, E]), dice)
        self.assertEqual(dice.rows, [[20, 9], [19, 9], [19, 4]])
        self.assertEqual(merged.view(), (3, 29, (B, D, A)))

    def test_the_dice_are_asked_until_nothing_is_left(self):
        dice = Watched(Tape([2, 0, 0]))
        merged = Weighted(5, 2, [A]).merge(Weighted(5, 4, [B, C]), dice)
        self.assertEqual((dice.rows, merged.view()), ([[2, 4], [2, 3], [0, 3]], (5, 6, (B, A, C))))

    def test_empty_ones_on_either_side(self):
        full = Weighted(2, 11, [D, A])
        for numbers in ([], [1, 1], [10, 3]):
            self.assertEqual(full.merge(Weighted.empty(2), Tape(numbers)).view(), (2, 11, (D, A)))
            self.assertEqual(Weighted.empty(2).merge(full, Tape(numbers)).view(), (2, 11, (D, A)))
        dice = Watched(Tape([]))
        Weighted.empty(2).merge(full, dice)
        self.assertEqual(dice.rows, [[0, 11], [0, 6]])

    def test_two_empty_ones_need_no_dice(self):
        self.assertEqual(Weighted.empty(4).merge(Weighted.empty(4), NoDice()).view(), (4, 0, ()))

    def test_a_tape_that_is_too_short(self):
        tape = Tape([10])
        merged = Weighted(4, 7, [D, A]).merge(Weighted(4, 4, [C, B]), tape)
        self.assertEqual((merged.view(), tape.used()), ((4, 11, (C, D, A, B)), 4))

    def test_dice_that_change_their_weights(self):
        class Greedy:
            def pick(self, weights):
                at = max(number for number, weight in enumerate(weights) if weight)
                weights[0] = weights[1] = 100
                return at
        merged = Weighted(4, 7, [D, A]).merge(Weighted(4, 4, [C, B]), Greedy())
        self.assertEqual(merged.view(), (4, 11, (C, B, D, A)))

    def test_both_samples_stay(self):
        one, other = Weighted(2, 20, [B, A]), Weighted(2, 9, [D, C])
        one.merge(other, Mixer(5)).kept.clear()
        self.assertEqual((one.view(), other.view()), ((2, 20, (B, A)), (2, 9, (D, C))))


class RefusedTest(unittest.TestCase):
    def check(self, error, one, other, *told):
        view = one.view()
        for merge in (lambda: one.merge(other, NoDice()), lambda: weighted_merge(one, other)):
            with self.assertRaises(error) as caught:
                merge()
            for name, value in told:
                self.assertEqual(getattr(caught.exception, name), value)
        self.assertEqual(one.view(), view)

    def test_another_size(self):
        self.check(WrongKind, Weighted.single(A, 2), Weighted.single(B, 3))
        self.check(WrongKind, Weighted.empty(2), Weighted.empty(1))

    def test_another_class(self):
        self.check(WrongKind, Weighted.single(A, 2), Uniform.single(B, 2))
        self.check(WrongKind, Weighted.empty(2), Uniform.empty(2))

    def test_wrong_kind_comes_ahead_of_a_shared_key(self):
        self.check(WrongKind, Weighted.single(A, 2), Weighted.single(A, 3))
        self.check(WrongKind, Weighted.single(A, 2), Uniform.single(A, 2))

    def test_the_least_common_key(self):
        self.check(SharedKey, Weighted.single(A, 2), Weighted.single(A, 2), ("key", "a"))
        self.check(SharedKey, Weighted(3, 10, [E, C, A]), Weighted(3, 7, [E, B, C]), ("key", "c"))
        self.check(SharedKey, Weighted.single(A, 2), Weighted.single(("a", "other", 9, 9), 2), ("key", "a"))

    def test_a_sample_with_itself(self):
        one = Weighted(2, 30, [D, B])
        self.check(SharedKey, one, one, ("key", "b"))


class WeightedLawTest(unittest.TestCase):
    def test_drawing_one_after_the_other(self):
        for number in range(6):
            for size in (1, 2, 3, 5, 6):
                with self.subTest(number=number, size=size):
                    things = THINGS[:number]
                    told = rows_of(chances_of(draw_plainly(things, size)))
                    self.assertEqual(weighted_law(things, size), told)
                    self.assertEqual(weighted_law(things[::-1], size), told)
                    self.assertIs(is_law(told), True)

    def test_seven_items(self):
        things = [(f"k{number}", "g", 7 * number % 11 + 1, 0) for number in range(7)]
        self.assertEqual(len(weighted_law(things, 3)), 210)
        self.assertEqual(len(weighted_law(things, 20)), 5040)

    def test_what_is_passed_stays_and_each_call_is_new(self):
        things = [C, A, B]
        first = weighted_law(things, 2)
        told = list(first)
        first.clear()
        self.assertEqual((things, weighted_law(things, 2)), ([C, A, B], told))


class ChancesTest(unittest.TestCase):
    def test_orders(self):
        for total in (14, 15, 100):
            for number in range(6):
                for order in itertools.permutations(THINGS, number):
                    self.assertEqual(order_chance(total, list(order)), pair_of(told_chance(total, order)))

    def test_sets(self):
        for total in (14, 15, 100):
            for number in range(6):
                for chosen in itertools.combinations(THINGS, number):
                    told = sum(told_chance(total, order) for order in itertools.permutations(chosen))
                    self.assertEqual(set_chance(total, list(chosen)), pair_of(told))

    def test_all_orders_of_all_sum_up_to_one(self):
        for number in range(6):
            things = THINGS[:number]
            total = sum(item[2] for item in things)
            self.assertEqual(set_chance(total, things), (1, 1))
            chances = [exact(order_chance(total, list(order))) for order in itertools.permutations(things)]
            self.assertEqual(sum(chances), 1)

    def test_sets_of_one_size_sum_up_to_one(self):
        for number in range(6):
            chances = [exact(set_chance(14, list(chosen))) for chosen in itertools.combinations(THINGS, number)]
            self.assertEqual(sum(chances), 1)

    def test_certain_values(self):
        self.assertEqual((order_chance(5, []), set_chance(5, [])), ((1, 1), (1, 1)))
        self.assertEqual((order_chance(5, [D]), set_chance(10, [D])), ((1, 1), (1, 2)))
        self.assertEqual((order_chance(7, [A, D]), order_chance(7, [D, A])), ((2, 7), (5, 7)))

    def test_seven_items(self):
        things = [(f"k{number}", "g", number + 1, 0) for number in range(7)]
        self.assertEqual(set_chance(28, things), (1, 1))

    def test_what_is_passed_stays(self):
        things = [C, A, B]
        order_chance(20, things), set_chance(20, things)
        self.assertEqual(things, [C, A, B])


class WeightedMergeTest(unittest.TestCase):
    def test_all_draws_of_the_merge(self):
        samples = [Weighted.empty(2), Weighted(2, 2, [A]), Weighted(2, 7, [D, A]), Weighted(2, 30, [A, D])]
        others = [Weighted.empty(2), Weighted(2, 3, [C]), Weighted(2, 4, [C, B]), Weighted(2, 9, [E, C])]
        pairs = list(itertools.product(samples, others))
        pairs.append((Weighted(1, 3, [A]), Weighted(1, 1, [B])))
        pairs.append((Weighted(5, 7, [D, A]), Weighted(5, 7, [B, E, C])))
        pairs.append((Weighted(3, 99, [D, A, B]), Weighted(3, 6, [E, C])))
        for one, other in pairs + [(other, one) for one, other in pairs]:
            with self.subTest(one=one.view(), other=other.view()):
                told = chances_of(lambda dice: one.merge(other, dice).view())
                self.assertEqual(weighted_merge(one, other), rows_of(told))

    def test_more_than_20000_runs(self):
        things = [(f"k{number:02}", "g", 1, 0) for number in range(30)]
        rows = weighted_merge(Weighted(15, 15, things[:15]), Weighted(15, 15, things[15:]))
        self.assertEqual((len(rows), rows[0][0][2]), (2 ** 15, tuple(things[:15])))

    def test_what_is_passed_stays_and_each_call_is_new(self):
        one, other = Weighted(2, 20, [B, A]), Weighted(2, 9, [D, C])
        first = weighted_merge(one, other)
        told = list(first)
        first.clear()
        self.assertEqual(weighted_merge(one, other), told)
        self.assertEqual((one.view(), other.view()), ((2, 20, (B, A)), (2, 9, (D, C))))


class FactsTest(unittest.TestCase):
    def test_the_plain_laws_of_two_lists_merge_to_that_of_both(self):
        for size in (1, 2, 3):
            for number in range(6):
                things, others = THINGS[:number], THINGS[number:]
                with self.subTest(size=size, number=number):
                    found = []
                    for (view, other), chance in joined(weighted_law(things, size), weighted_law(others, size)):
                        for further, share in weighted_merge(sample_of(view), sample_of(other)):
                            found.append((further, pair_of(exact(chance) * exact(share))))
                    self.assertEqual(law_from(found), weighted_law(THINGS, size))

    def test_whatever_of_three_is_merged_first(self):
        samples = [Weighted(2, 20, [B, A]), Weighted(2, 5, [D]), Weighted(2, 9, [C, E])]
        laws = []
        for one, two, three in itertools.permutations(samples):
            laws.append(merged_rows(weighted_merge(one, two), three))
            laws.append(merged_rows(weighted_merge(one, two), three, first=False))
        for rows in laws:
            self.assertEqual(rows, laws[0])

    def test_whatever_chooses_by_what_was_drawn(self):
        singles = [Weighted.single(item, 2) for item in THINGS[:4]]

        def draw(dice):
            first = singles[0].merge(singles[1], dice)
            second = singles[2].merge(first, dice)
            if second.kept[0] == A:
                return singles[3].merge(second, dice).view()
            return second.merge(singles[3], dice).view()
        self.assertEqual(rows_of(chances_of(draw)), weighted_law(THINGS[:4], 2))

    def test_fewer_items_than_the_size_have_the_total(self):
        for view in exact_rows(weighted_law(THINGS, 6)):
            self.assertEqual((len(view[2]), view[1]), (5, sum(item[2] for item in view[2])))


if __name__ == "__main__":
    unittest.main()
