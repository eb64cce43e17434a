"""Promises 21 to 25: uniform samples, their plain law and their merge, and the chances."""

import itertools
import math
import unittest
from fractions import Fraction

from oracles import NoDice, Watched, all_runs, chances_of, exact, exact_rows, pair_of, rows_of

from samphire.dice import Mixer, Tape
from samphire.errors import InvalidSize, SharedKey, WrongKind
from samphire.laws import is_law, joined, law_from
from samphire.uniform import Uniform, item_chance, pair_chance, uniform_law, uniform_merge
from samphire.weighted import Weighted

A, B, C, D, E, F, G = [(key, "g", number + 1, number - 3) for number, key in enumerate("abcdefg")]
THINGS = [A, B, C, D, E, F, G]


def sample_of(view):
    return Uniform(view[0], view[1], list(view[2]))


def merged_rows(rows, size, other):
    """The law of the view when a sample with a law is merged with a sample."""
    found = []
    for view, chance in rows:
        for further, share in uniform_merge(sample_of(view), other):
            found.append((further, pair_of(exact(chance) * exact(share))))
    return law_from(found)


class MadeTest(unittest.TestCase):
    def test_attributes_and_view(self):
        sample = Uniform(2, 5, [A, C])
        self.assertEqual((sample.size, sample.seen, sample.kept), (2, 5, [A, C]))
        self.assertEqual(sample.view(), (2, 5, (A, C)))

    def test_the_list_is_copied(self):
        kept = [A, C]
        sample = Uniform(2, 5, kept)
        kept[0] = B
        kept.append(D)
        self.assertEqual((sample.kept, sample.view()), ([A, C], (2, 5, (A, C))))
        sample.kept.append(E)
        self.assertEqual(kept, [B, C, D])

    def test_empty_and_single(self):
        for size in (1, 2, 19, 20):
            with self.subTest(size):
                self.assertIsInstance(Uniform.empty(size), Uniform)
                self.assertEqual(Uniform.empty(size).view(), (size, 0, ()))
                self.assertEqual(Uniform.single(D, size).view(), (size, 1, (D,)))
                self.assertEqual((Uniform.empty(size).kept, Uniform.single(D, size).kept), ([], [D]))

    def test_empty_ones_do_not_share_a_list(self):
        Uniform.empty(3).kept.append(A)
        self.assertEqual(Uniform.empty(3).kept, [])

    def test_sizes_that_are_none(self):
        for size in (-1, 0, 21, 1000):
            for make in (lambda size: Uniform.empty(size), lambda size: Uniform.single(A, size)):
                with self.assertRaises(InvalidSize) as caught:
                    make(size)
                self.assertEqual(caught.exception.size, size)


class MergeTest(unittest.TestCase):
    def test_two_single_ones(self):
        one, other = Uniform.single(A, 1), Uniform.single(B, 1)
        self.assertEqual(one.merge(other, Tape([0])).view(), (1, 2, (A,)))
        self.assertEqual(one.merge(other, Tape([1])).view(), (1, 2, (B,)))
        self.assertEqual(other.merge(one, Tape([0])).view(), (1, 2, (B,)))
        self.assertIsInstance(one.merge(other, Tape([0])), Uniform)

    def test_all_are_kept_while_there_is_room(self):
        for numbers in itertools.product(range(3), repeat=4):
            merged = Uniform.single(B, 3).merge(Uniform(3, 2, [A, C]), Tape(numbers))
            self.assertEqual(merged.view(), (3, 3, (A, B, C)))

    def test_samples_that_have_seen_more_than_they_keep(self):
        one, other = Uniform(2, 5, [A, D]), Uniform(2, 3, [B, C])
        # 5 and 3 are left: 4 says the first one, and of its items 1 says d; then 4 and 3 are left, and 5 says the other.
        self.assertEqual(one.merge(other, Tape([4, 1, 5, 0])).view(), (2, 8, (B, D)))
        self.assertEqual(one.merge(other, Tape([5, 1, 5, 0])).view(), (2, 8, (B, C)))
        self.assertEqual(one.merge(other, Tape([5, 1, 3, 1])).view(), (2, 8, (C, D)))
        self.assertEqual(one.merge(other, Tape([4, 0, 3, 0])).view(), (2, 8, (A, D)))

    def test_what_the_dice_are_asked(self):
        dice = Watched(Tape([0, 1, 7, 0, 3, 0]))
        merged = Uniform(3, 6, [A, B, C]).merge(Uniform(3, 3, [D, E, F]), dice)
        self.assertEqual(dice.rows, [[6, 3], [1, 1, 1], [5, 3], [1, 1, 1], [5, 2], [1, 1]])
        self.assertEqual(merged.view(), (3, 9, (A, B, D)))

    def test_what_the_dice_are_asked_of_one_side_alone(self):
        dice = Watched(Tape([]))
        Uniform(3, 1, [A]).merge(Uniform(3, 2, [B, C]), dice)
        self.assertEqual(dice.rows, [[1, 2], [1], [0, 2], [1, 1], [0, 1], [1]])

    def test_empty_ones_on_either_side(self):
        full = Uniform(2, 5, [A, D])
        for numbers in ([], [1, 1, 1, 1], [0, 1, 4, 0]):
            self.assertEqual(full.merge(Uniform.empty(2), Tape(numbers)).view(), (2, 5, (A, D)))
            self.assertEqual(Uniform.empty(2).merge(full, Tape(numbers)).view(), (2, 5, (A, D)))
        dice = Watched(Tape([]))
        Uniform.empty(2).merge(full, dice)
        self.assertEqual(dice.rows, [[0, 5], [1, 1], [0, 4], [1]])

    def test_two_empty_ones_need_no_dice(self):
        self.assertEqual(Uniform.empty(4).merge(Uniform.empty(4), NoDice()).view(), (4, 0, ()))

    def test_an_empty_one_with_itself(self):
        empty = Uniform.empty(2)
        self.assertEqual(empty.merge(empty, NoDice()).view(), (2, 0, ()))

    def test_a_tape_that_is_too_short(self):
        tape = Tape([4])
        merged = Uniform(2, 2, [A, B]).merge(Uniform(2, 3, [C, D]), tape)
        self.assertEqual((merged.view(), tape.used()), ((2, 5, (A, C)), 4))

    def test_dice_that_change_their_weights(self):
        class Greedy:
            def pick(self, weights):
                at = max(number for number, weight in enumerate(weights) if weight)
                weights.clear()
                return at
        merged = Uniform(2, 2, [A, B]).merge(Uniform(2, 3, [C, D]), Greedy())
        self.assertEqual(merged.view(), (2, 5, (C, D)))

    def test_items_are_picked_in_the_order_of_their_keys(self):
        one, other = Uniform(2, 5, [D, A]), Uniform(2, 3, [C, B])
        self.assertEqual(one.merge(other, Tape([0, 0, 4, 0])).view(), (2, 8, (A, B)))
        self.assertEqual((one.kept, other.kept), ([D, A], [C, B]))

    def test_both_samples_stay(self):
        one, other = Uniform(2, 5, [A, D]), Uniform(2, 3, [B, C])
        merged = one.merge(other, Mixer(5))
        merged.kept.clear()
        self.assertEqual((one.view(), other.view()), ((2, 5, (A, D)), (2, 3, (B, C))))
        whole = one.merge(Uniform.empty(2), Mixer(5))
        whole.kept.append(B)
        self.assertEqual(one.kept, [A, D])

    def test_kept_items_ascend_by_keys(self):
        rows = [("k2", "a", 9, 0), ("k10", "z", 1, 0), ("k1", "m", 5, 5), ("a", "z", 1000, 1)]
        sample = Uniform.empty(3)
        for item in rows:
            sample = sample.merge(Uniform.single(item, 3), Mixer(3))
            self.assertEqual(sample.kept, sorted(sample.kept))
        self.assertEqual((sample.seen, len(sample.kept)), (4, 3))


class RefusedTest(unittest.TestCase):
    def check(self, error, one, other, *told):
        view = one.view()
        for merge in (lambda: one.merge(other, NoDice()), lambda: uniform_merge(one, other)):
            with self.assertRaises(error) as caught:
                merge()
            for name, value in told:
                self.assertEqual(getattr(caught.exception, name), value)
        self.assertEqual(one.view(), view)

    def test_another_size(self):
        self.check(WrongKind, Uniform.single(A, 2), Uniform.single(B, 3))
        self.check(WrongKind, Uniform.empty(2), Uniform.empty(1))

    def test_another_class(self):
        self.check(WrongKind, Uniform.single(A, 2), Weighted.single(B, 2))
        self.check(WrongKind, Uniform.empty(2), Weighted.empty(2))

    def test_wrong_kind_comes_ahead_of_a_shared_key(self):
        self.check(WrongKind, Uniform.single(A, 2), Uniform.single(A, 3))
        self.check(WrongKind, Uniform.single(A, 2), Weighted.single(A, 2))

    def test_the_least_common_key(self):
        self.check(SharedKey, Uniform.single(A, 2), Uniform.single(A, 2), ("key", "a"))
        self.check(SharedKey, Uniform(3, 9, [A, C, E]), Uniform(3, 4, [B, C, E]), ("key", "c"))
        self.check(SharedKey, Uniform(2, 2, [D, F]), Uniform(2, 7, [A, F]), ("key", "f"))

    def test_the_key_alone_counts(self):
        self.check(SharedKey, Uniform.single(A, 2), Uniform.single(("a", "other", 9, 9), 2), ("key", "a"))

    def test_a_sample_with_itself(self):
        one = Uniform(2, 5, [B, C])
        self.check(SharedKey, one, one, ("key", "b"))


class UniformLawTest(unittest.TestCase):
    def test_sets_of_small_lists(self):
        for number in range(8):
            for size in range(1, 9):
                with self.subTest(number=number, size=size):
                    things = THINGS[:number]
                    sets = list(itertools.combinations(things, min(size, number)))
                    rows = [((size, number, chosen), (1, len(sets))) for chosen in sets]
                    self.assertEqual(uniform_law(things, size), rows)
                    self.assertEqual(uniform_law(things[::-1], size), rows)
                    self.assertIs(is_law(uniform_law(things, size)), True)

    def test_twelve_items(self):
        things = [(f"k{number}", "g", 1, number) for number in range(12)]
        rows = uniform_law(things, 6)
        self.assertEqual((len(rows), {chance for _, chance in rows}), (924, {(1, 924)}))
        self.assertEqual(len(uniform_law(things, 20)), 1)

    def test_what_is_passed_stays_and_each_call_is_new(self):
        things = [C, A, B]
        first = uniform_law(things, 2)
        told = list(first)
        first.clear()
        self.assertEqual((things, uniform_law(things, 2)), ([C, A, B], told))


class UniformMergeTest(unittest.TestCase):
    def pairs(self):
        samples = [Uniform.empty(2), Uniform(2, 1, [A]), Uniform(2, 2, [A, D]), Uniform(2, 5, [B, D])]
        others = [Uniform.empty(2), Uniform(2, 1, [C]), Uniform(2, 2, [C, E]), Uniform(2, 4, [C, F])]
        small = [Uniform(1, 3, [A]), Uniform(1, 1, [E])]
        great = [Uniform(3, 3, [A, B, F]), Uniform(3, 7, [C, D, E])]
        wide = [Uniform(5, 2, [A, D]), Uniform(5, 1, [C])]
        return list(itertools.product(samples, others)) + [small, small[::-1], great, great[::-1], wide]

    def test_all_draws_of_the_merge(self):
        for one, other in self.pairs():
            with self.subTest(one=one.view(), other=other.view()):
                told = chances_of(lambda dice: one.merge(other, dice).view())
                self.assertEqual(uniform_merge(one, other), rows_of(told))

    def test_how_many_come_from_each(self):
        for one, other in self.pairs():
            rows = exact_rows(uniform_merge(one, other))
            a, b = one.seen, other.seen
            steps = min(one.size, a + b)
            for many in range(steps + 1):
                told = Fraction(math.comb(a, many) * math.comb(b, steps - many), math.comb(a + b, steps))
                found = [chance for view, chance in rows.items() if len(set(view[2]) & set(one.kept)) == many]
                self.assertEqual(sum(found), told)
                self.assertLessEqual(len(set(found)), 1)

    def test_more_than_20000_runs(self):
        things = [(f"k{number}", "g", 1, 0) for number in range(12)]
        one, other = Uniform(6, 6, things[:6]), Uniform(6, 9, things[6:])
        rows = uniform_merge(one, other)
        self.assertEqual((len(rows), is_law(rows)), (924, True))

    def test_what_is_passed_stays_and_each_call_is_new(self):
        one, other = Uniform(2, 5, [A, D]), Uniform(2, 3, [B, C])
        first = uniform_merge(one, other)
        told = list(first)
        first.clear()
        self.assertEqual(uniform_merge(one, other), told)
        self.assertEqual((one.view(), other.view()), ((2, 5, (A, D)), (2, 3, (B, C))))


class FactsTest(unittest.TestCase):
    def test_the_plain_laws_of_two_lists_merge_to_that_of_both(self):
        for size in (1, 2, 3):
            for number in range(6):
                things, others = THINGS[:number], THINGS[number:6]
                with self.subTest(size=size, number=number):
                    found = []
                    for (view, other), chance in joined(uniform_law(things, size), uniform_law(others, size)):
                        for further, share in uniform_merge(sample_of(view), sample_of(other)):
                            found.append((further, pair_of(exact(chance) * exact(share))))
                    self.assertEqual(law_from(found), uniform_law(THINGS[:6], size))

    def test_whatever_of_three_is_merged_first(self):
        one, two, three = Uniform(2, 4, [A, B]), Uniform(2, 2, [C, D]), Uniform(2, 3, [E, F])
        laws = []
        for first, second, third in itertools.permutations([one, two, three]):
            laws.append(merged_rows(uniform_merge(first, second), 2, third))
        for rows in laws:
            self.assertEqual(rows, laws[0])

    def test_whatever_chooses_by_what_was_drawn(self):
        singles = [Uniform.single(item, 2) for item in THINGS[:4]]

        def draw(dice):
            first = singles[0].merge(singles[1], dice)
            second = first.merge(singles[2], dice)
            if A in second.kept:
                return singles[3].merge(second, dice).view()
            return second.merge(singles[3], dice).view()
        self.assertEqual(rows_of(chances_of(draw)), uniform_law(THINGS[:4], 2))

    def test_no_step_lacks_an_item(self):
        one, other = Uniform(3, 4, [A, B, C]), Uniform(3, 3, [D, E, F])
        for _, _, view in all_runs(lambda dice: one.merge(other, dice).view()):
            self.assertEqual(len(view[2]), 3)


class ChancesTest(unittest.TestCase):
    def test_below_at_and_above_the_size(self):
        self.assertEqual([item_chance(number, 3) for number in (1, 2, 3, 4, 6, 7)],
                         [(1, 1), (1, 1), (1, 1), (3, 4), (1, 2), (3, 7)])
        self.assertEqual([pair_chance(number, 3) for number in (2, 3, 4, 5, 6)],
                         [(1, 1), (1, 1), (1, 2), (3, 10), (1, 5)])
        self.assertEqual((item_chance(1000, 20), pair_chance(1000, 20)), ((1, 50), pair_of(Fraction(380, 999000))))

    def test_a_sample_of_one_keeps_no_two(self):
        self.assertEqual([pair_chance(number, 1) for number in (2, 3, 50)], [(0, 1)] * 3)
        self.assertEqual([item_chance(number, 1) for number in (1, 2, 50)], [(1, 1), (1, 2), (1, 50)])

    def test_by_the_plain_law(self):
        for number in range(1, 8):
            for size in range(1, 9):
                rows = exact_rows(uniform_law(THINGS[:number], size))
                kept = sum(chance for view, chance in rows.items() if A in view[2])
                self.assertEqual(item_chance(number, size), pair_of(kept))
                if number >= 2:
                    both = sum(chance for view, chance in rows.items() if A in view[2] and B in view[2])
                    self.assertEqual(pair_chance(number, size), pair_of(both))


if __name__ == "__main__":
    unittest.main()
