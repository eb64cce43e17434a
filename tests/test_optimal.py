"""Promises 31 to 35: thresholds, optimal samples and their merge, and the chances of items."""

import itertools
import math
import unittest
from fractions import Fraction

from oracles import NoDice, Watched, all_runs, chances_of, exact, pair_of

from samphire.dice import Mixer, Tape
from samphire.errors import InvalidSize, SharedKey, WrongKind
from samphire.optimal import Optimal, item_chances, threshold
from samphire.uniform import Uniform
from samphire.weighted import Weighted

A, B, C, D, E = [("a", "x", 1, 5), ("b", "x", 2, 7), ("c", "y", 6, -1), ("d", "y", 2, 0), ("e", "z", 9, 4)]
THINGS = [A, B, C, D, E]


def whole(things, size):
    return Optimal(size, [(item, (item[2], 1)) for item in things])


def whole_numbers(weights):
    return [(weight, 1) for weight in weights]


def taken(weights, bar):
    """The sum of the lesser ones of 1 and w / t."""
    return sum(min(Fraction(1), exact(weight) / exact(bar)) for weight in weights)


def drop_weights(adjusted):
    """What the dice are given to drop one of pairs with these adjusted weights."""
    bar = exact(threshold(adjusted, len(adjusted) - 1))
    chances = [1 - min(Fraction(1), exact(weight) / bar) for weight in adjusted]
    common = math.lcm(*[chance.denominator for chance in chances])
    return [int(chance * common) for chance in chances]


class ThresholdTest(unittest.TestCase):
    def test_fewer_weights_than_the_size_and_as_many(self):
        for weights in ([], [(1, 1)], [(1, 2), (700, 1)], [(5, 1)] * 3):
            for size in range(max(1, len(weights)), len(weights) + 3):
                self.assertEqual(threshold(weights, size), (0, 1))

    def test_certain_values(self):
        self.assertEqual(threshold(whole_numbers([1, 2, 6]), 2), (3, 1))
        self.assertEqual(threshold(whole_numbers([1, 2, 6]), 1), (9, 1))
        self.assertEqual(threshold(whole_numbers([5, 1, 2]), 2), (3, 1))
        self.assertEqual(threshold(whole_numbers([1, 1, 1, 1]), 3), (4, 3))

    def test_equal_weights(self):
        for number in range(2, 8):
            for size in range(1, number):
                for weight in ((3, 1), (2, 7)):
                    told = exact(weight) * number / size
                    self.assertEqual(threshold([weight] * number, size), pair_of(told))

    def test_one_weight_that_is_far_greater(self):
        self.assertEqual(threshold(whole_numbers([1000, 1, 1, 1]), 2), (3, 1))
        self.assertEqual(threshold(whole_numbers([1, 1, 1000, 1]), 3), (3, 2))
        self.assertEqual(threshold(whole_numbers([1, 1000, 1, 1]), 1), (1003, 1))
        self.assertEqual(threshold(whole_numbers([1, 1000, 1, 900, 80, 1]), 4), (3, 1))
        self.assertEqual(threshold([(10 ** 40, 3), (1, 3), (1, 10 ** 20)], 2), pair_of(Fraction(1, 3) + Fraction(1, 10 ** 20)))

    def test_a_weight_that_is_just_the_threshold(self):
        self.assertEqual(threshold(whole_numbers([1, 2, 3]), 2), (3, 1))
        self.assertEqual(threshold(whole_numbers([3, 3, 1, 2]), 3), (3, 1))

    def test_the_lesser_ones_sum_up_to_the_size(self):
        for weights in itertools.product([(1, 1), (2, 3), (5, 2), (40, 1)], repeat=5):
            for size in (1, 2, 3, 4):
                bar = threshold(list(weights), size)
                self.assertGreater(bar[0], 0)
                self.assertEqual(math.gcd(*bar), 1)
                self.assertEqual(taken(weights, bar), size)

    def test_the_list_stays(self):
        weights = [(5, 1), (1, 2), (2, 1)]
        threshold(weights, 2)
        self.assertEqual(weights, [(5, 1), (1, 2), (2, 1)])


class ItemChancesTest(unittest.TestCase):
    def test_certain_values(self):
        self.assertEqual(item_chances([A, B, C], 2), [(1, 3), (2, 3), (1, 1)])
        self.assertEqual(item_chances([C, A, B], 2), [(1, 1), (1, 3), (2, 3)])
        self.assertEqual(item_chances([A, B, C], 1), [(1, 9), (2, 9), (2, 3)])
        self.assertEqual(item_chances([A, B, C], 3), [(1, 1)] * 3)
        self.assertEqual((item_chances([A, B], 20), item_chances([], 1)), ([(1, 1)] * 2, []))

    def test_by_the_threshold_and_their_sum(self):
        for number in range(1, 6):
            for things in itertools.combinations(THINGS, number):
                for size in range(1, 7):
                    found = [exact(chance) for chance in item_chances(list(things), size)]
                    self.assertEqual(sum(found), min(size, number))
                    bar = exact(threshold([(item[2], 1) for item in things], size))
                    told = [min(1, item[2] / bar) if bar else 1 for item in things]
                    self.assertEqual(found, told)

    def test_the_list_stays(self):
        things = [C, A, B]
        item_chances(things, 2).append(1)
        self.assertEqual(things, [C, A, B])


class MadeTest(unittest.TestCase):
    def test_attributes_and_view(self):
        parts = [(A, (3, 1)), (C, (13, 2))]
        sample = Optimal(2, parts)
        self.assertEqual((sample.size, sample.parts, sample.kept), (2, parts, [A, C]))
        self.assertEqual(sample.view(), (2, ((A, (3, 1)), (C, (13, 2)))))
        self.assertEqual(sample.adjusted_sum(), (19, 2))

    def test_empty_and_single(self):
        for size in (1, 2, 19, 20):
            with self.subTest(size):
                empty, single = Optimal.empty(size), Optimal.single(C, size)
                self.assertIsInstance(empty, Optimal)
                self.assertEqual((empty.view(), empty.kept, empty.adjusted_sum()), ((size, ()), [], (0, 1)))
                self.assertEqual((single.view(), single.kept), ((size, ((C, (6, 1)),)), [C]))
                self.assertEqual(single.adjusted_sum(), (6, 1))

    def test_sizes_that_are_none(self):
        for size in (-1, 0, 21, 1000):
            for make in (lambda size: Optimal.empty(size), lambda size: Optimal.single(A, size)):
                with self.assertRaises(InvalidSize) as caught:
                    make(size)
                self.assertEqual(caught.exception.size, size)

    def test_lists_that_were_handed_in(self):
        parts = [(A, (3, 1)), (C, (6, 1))]
        sample = Optimal(2, parts)
        parts[0] = (B, (2, 1))
        parts.append((D, (2, 1)))
        self.assertEqual((sample.view(), sample.kept), ((2, ((A, (3, 1)), (C, (6, 1)))), [A, C]))

    def test_lists_that_were_handed_out(self):
        sample = whole([A, C], 2)
        merged = sample.merge(Optimal.empty(2), NoDice())
        merged.parts.clear()
        merged.kept.clear()
        self.assertEqual((sample.view(), sample.kept), (whole([A, C], 2).view(), [A, C]))
        sample.kept.append(B)
        self.assertEqual(sample.view(), whole([A, C], 2).view())


class MergeTest(unittest.TestCase):
    def test_nothing_is_dropped_without_a_pick(self):
        for one, other in (([], []), ([A], []), ([], [A]), ([C], [A]), ([B, D], [A]), ([A], [B, C])):
            merged = whole(one, 3).merge(whole(other, 3), NoDice())
            self.assertEqual(merged.view(), whole(sorted(one + other), 3).view())
            self.assertIsInstance(merged, Optimal)
        merged = Optimal(2, [(C, (13, 2))]).merge(Optimal(2, [(A, (3, 1))]), NoDice())
        self.assertEqual(merged.view(), (2, ((A, (3, 1)), (C, (13, 2)))))
        self.assertEqual(merged.kept, [A, C])

    def test_one_pair(self):
        one, other = whole([A, C], 2), Optimal.single(B, 2)
        dropped_a = (2, ((B, (3, 1)), (C, (6, 1))))
        dropped_b = (2, ((A, (3, 1)), (C, (6, 1))))
        for first, second in ((one, other), (other, one)):
            dice = Watched(Tape([0]))
            self.assertEqual(first.merge(second, dice).view(), dropped_a)
            self.assertEqual(dice.rows, [[2, 1, 0]])
            self.assertEqual(first.merge(second, Tape([1])).view(), dropped_a)
            self.assertEqual(first.merge(second, Tape([2])).view(), dropped_b)
            self.assertEqual(first.merge(second, Tape([2])).kept, [A, C])

    def test_several_pairs_one_after_the_other(self):
        dice = Watched(Tape([0, 0]))
        merged = whole([A, C], 2).merge(whole([B, D], 2), dice)
        # t is 5/2 for three of 1, 2, 6, 2; without a the weights 5/2, 6, 5/2 have the threshold 5 for two of them.
        self.assertEqual(dice.rows, [[3, 1, 0, 1], [1, 0, 1]])
        self.assertEqual(merged.view(), (2, ((C, (6, 1)), (D, (5, 1)))))
        dice = Watched(Tape([4, 1]))
        merged = whole([A, C], 2).merge(whole([B, D], 2), dice)
        self.assertEqual(dice.rows, [[3, 1, 0, 1], [1, 1, 0]])
        self.assertEqual(merged.view(), (2, ((A, (5, 1)), (C, (6, 1)))))

    def test_the_weights_that_the_dice_are_given(self):
        for adjusted in itertools.product([(2, 1), (7, 2), (11, 3), (50, 1)], repeat=4):
            parts = list(zip([A, B, C, D], adjusted))
            dice = Watched(Tape([]))
            Optimal(3, parts[:2]).merge(Optimal(3, parts[2:]), dice)
            self.assertEqual(dice.rows, [drop_weights(adjusted)])

    def test_the_weights_of_each_further_pick(self):
        for numbers in itertools.product(range(4), repeat=3):
            one, other = whole([A, C, E], 3), whole([B, D, ("f", "z", 4, 0)], 3)
            dice = Watched(Tape(list(numbers)))
            merged = one.merge(other, dice)
            pairs = sorted(one.parts + other.parts)
            tape = Tape(list(numbers))
            for row in dice.rows:
                adjusted = [pair[1] for pair in pairs]
                self.assertEqual(row, drop_weights(adjusted))
                bar = threshold(adjusted, len(pairs) - 1)
                pairs.pop(tape.pick(row))
                pairs = [(item, max(weight, bar, key=exact)) for item, weight in pairs]
            self.assertEqual(merged.parts, pairs)
            self.assertEqual(len(dice.rows), 3)

    def test_an_adjusted_weight_above_the_threshold_stays(self):
        for _, _, view in all_runs(lambda dice: whole([A, E], 2).merge(whole([B], 2), dice).view()):
            self.assertIn((E, (9, 1)), view[1])

    def test_a_tape_that_is_too_short(self):
        tape = Tape([])
        self.assertEqual(whole([A], 1).merge(whole([B], 1), tape).view(), (1, ((B, (3, 1)),)))
        self.assertEqual(tape.used(), 1)

    def test_both_samples_stay(self):
        one, other = whole([A, C], 2), whole([B, D], 2)
        one.merge(other, Mixer(5)).parts.clear()
        self.assertEqual((one.view(), other.view()), (whole([A, C], 2).view(), whole([B, D], 2).view()))
        self.assertEqual((one.kept, other.kept), ([A, C], [B, D]))


class RefusedTest(unittest.TestCase):
    def check(self, error, one, other, *told):
        view = one.view()
        with self.assertRaises(error) as caught:
            one.merge(other, NoDice())
        for name, value in told:
            self.assertEqual(getattr(caught.exception, name), value)
        self.assertEqual(one.view(), view)

    def test_wrong_kind(self):
        self.check(WrongKind, whole([A], 2), whole([B], 3))
        self.check(WrongKind, Optimal.empty(2), Optimal.empty(1))
        self.check(WrongKind, whole([A], 2), Uniform.single(B, 2))
        self.check(WrongKind, whole([A], 2), Weighted.single(B, 2))

    def test_wrong_kind_comes_ahead_of_a_shared_key(self):
        self.check(WrongKind, whole([A], 2), whole([A], 3))
        self.check(WrongKind, whole([A], 2), Uniform.single(A, 2))

    def test_the_least_common_key(self):
        self.check(SharedKey, whole([A], 1), whole([A], 1), ("key", "a"))
        self.check(SharedKey, whole([A, C, E], 3), whole([B, C, E], 3), ("key", "c"))
        self.check(SharedKey, whole([A], 3), whole([("a", "other", 5, 5)], 3), ("key", "a"))

    def test_a_sample_with_itself(self):
        one = whole([B, C], 2)
        self.check(SharedKey, one, one, ("key", "b"))


def in_a_row(samples, dice):
    found = samples[0]
    for sample in samples[1:]:
        found = found.merge(sample, dice)
    return found


def by_pairs(samples, dice):
    samples = list(samples)
    while len(samples) > 1:
        samples = samples[2:] + [samples[1].merge(samples[0], dice)]
    return samples[0]


def by_what_was_drawn(samples, dice):
    """Merge what has kept the item a first of all, if it is still there, otherwise the last two."""
    samples = list(samples)
    while len(samples) > 1:
        samples.sort(key=lambda sample: (A not in sample.kept, sample.parts[-1][1] > (6, 1)))
        first = samples.pop(0 if A in samples[0].kept else -1)
        samples.append(first.merge(samples.pop(), dice))
    return samples[0]


class FactsTest(unittest.TestCase):
    def test_the_chances_with_which_pairs_are_dropped(self):
        for adjusted in itertools.product([(2, 1), (7, 2), (11, 3), (50, 1)], repeat=4):
            bar = exact(threshold(adjusted, 3))
            self.assertEqual(sum(1 - min(Fraction(1), exact(weight) / bar) for weight in adjusted), 1)

    def test_the_adjusted_weights_sum_to_all_weights(self):
        samples = [Optimal.single(item, 2) for item in THINGS]
        for way in (in_a_row, by_pairs, by_what_was_drawn):
            for seed in range(20):
                self.assertEqual(way(samples, Mixer(seed)).adjusted_sum(), (20, 1))

    def test_whatever_is_merged(self):
        for number in range(1, 6):
            for size in (1, 2, 3):
                things = THINGS[:number]
                bar = threshold([(item[2], 1) for item in things], size)
                chances = [exact(chance) for chance in item_chances(things, size)]
                for way in (in_a_row, by_pairs, by_what_was_drawn):
                    with self.subTest(number=number, size=size, way=way.__name__):
                        singles = [Optimal.single(item, size) for item in things]
                        views = chances_of(lambda dice: way(singles, dice).view())
                        self.check_items(views, things, bar, chances)

    def check_items(self, views, things, bar, chances):
        self.assertEqual(sum(views.values()), 1)
        for item, told in zip(things, chances):
            kept = sum(chance for view, chance in views.items() if item in dict(view[1]))
            self.assertEqual(kept, told)
        for view in views:
            for item, adjusted in view[1]:
                self.assertEqual(exact(adjusted), max(Fraction(item[2]), exact(bar)))
        for one, other in itertools.combinations(things, 2):
            product = 0
            for view, chance in views.items():
                adjusted = dict(view[1])
                product += chance * exact(adjusted.get(one, (0, 1))) * exact(adjusted.get(other, (0, 1)))
            self.assertLessEqual(product, one[2] * other[2])


if __name__ == "__main__":
    unittest.main()
