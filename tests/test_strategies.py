"""Promises 43 to 46: parcels that are apart, situations, strategies, and the range for a worth."""

import itertools
import unittest
from unittest import mock

from oracles import NoDice, all_runs, chances_of, exact, pair_of, rows_of

from samphire.dice import Mixer, Tape
from samphire.errors import EmptyList, SharedKey, SharedPart, TooLarge, WrongKind
from samphire.laws import is_law
from samphire.optimal import Optimal, item_chances, threshold
from samphire.strategies import check_parcels, choice, law_of_merging, merge_all, reach, situation
from samphire.uniform import Uniform, uniform_law
from samphire.weighted import Weighted, weighted_law

A, B, C, D, E, F = [("a", "x", 1, 5), ("b", "x", 2, 7), ("c", "y", 6, -1), ("d", "y", 2, 0), ("e", "z", 9, 4), ("f", "z", 1, 1)]
THINGS = [A, B, C, D, E, F]
KINDS = [Uniform, Weighted, Optimal]


def singles(kind, number, size):
    """Parcels of one item each."""
    return [((f"p{place}",), kind.single(THINGS[place], size)) for place in range(number)]


def views_of(parcels):
    return [(parts, sample.view()) for parts, sample in parcels]


def merged_at(parcels, i, j, dice):
    """The list of parcels in which two were merged, by the definition."""
    parts = tuple(sorted(parcels[i][0] + parcels[j][0]))
    new = (parts, parcels[i][1].merge(parcels[j][1], dice))
    return [parcel for place, parcel in enumerate(parcels) if place != i and place != j] + [new]


def plain_choice(parcels):
    return (0, 1)


def last_choice(parcels):
    return (len(parcels) - 2, len(parcels) - 1)


def choice_by_kept(parcels):
    """Merge the first parcel that has kept the item a with the last other one."""
    for place, (_, sample) in enumerate(parcels):
        if A in sample.kept:
            last = len(parcels) - 1
            return (place, last) if place < last else (0, last)
    return (0, 1)


def strategy_of(parcels, chooser):
    """The strategy that a function makes, for all situations that can come."""
    found = {}
    waiting = [parcels]
    while waiting:
        here = waiting.pop()
        if len(here) > 1 and situation(here) not in found:
            found[situation(here)] = chooser(here)
            for i, j in itertools.combinations(range(len(here)), 2):
                waiting.extend([rows for _, _, rows in all_runs(lambda dice: merged_at(here, i, j, dice))])
    return found


def ends_of(parcels, worth, low, high):
    """The least and the greatest mean from a list of parcels on; the pairs are put into two dicts."""
    if len(parcels) == 1:
        value = worth.get(parcels[0][1].view(), 0)
        return value, value
    rows = []
    for pair in itertools.combinations(range(len(parcels)), 2):
        least = greatest = 0
        for _, chance, after in all_runs(lambda dice: merged_at(parcels, *pair, dice)):
            one, other = ends_of(after, worth, low, high)
            least += chance * one
            greatest += chance * other
        rows.append((least, greatest, pair))
    low[situation(parcels)] = min(rows, key=lambda row: (row[0], row[2]))[2]
    high[situation(parcels)] = min(rows, key=lambda row: (-row[1], row[2]))[2]
    return min(row[0] for row in rows), max(row[1] for row in rows)


class CheckTest(unittest.TestCase):
    def refused(self, error, parcels, *told):
        """The parcels are refused by all that need parcels which are apart, and stay as they are."""
        views = views_of(parcels)
        for call in (
            lambda: check_parcels(parcels), lambda: merge_all(parcels, {}, NoDice()),
            lambda: law_of_merging(parcels, {}), lambda: reach(parcels, {}),
        ):
            with self.assertRaises(error) as caught:
                call()
            for name, value in told:
                self.assertEqual(getattr(caught.exception, name), value)
        self.assertEqual(views_of(parcels), views)

    def test_parcels_that_are_apart(self):
        for kind in KINDS:
            self.assertIsNone(check_parcels(singles(kind, 1, 2)))
            self.assertIsNone(check_parcels(singles(kind, 6, 2)))
            self.assertIsNone(check_parcels([((), kind.empty(3)), (("p1", "p7"), kind.empty(3))]))

    def test_seven_parcels_may_be_apart(self):
        parcels = [((f"p{number}",), Uniform.empty(2)) for number in range(7)]
        self.assertIsNone(check_parcels(parcels))

    def test_no_parcel(self):
        self.refused(EmptyList, [])

    def test_shared_parts(self):
        first, second, third = singles(Uniform, 3, 2)
        self.refused(SharedPart, [first, second, (("p1",), third[1])], ("part", "p1"))
        parcels = [(("p1", "p3", "p5"), first[1]), (("p2", "p5"), second[1]), (("p0", "p2", "p3"), third[1])]
        self.refused(SharedPart, parcels, ("part", "p2"))
        self.refused(SharedPart, parcels[::-1], ("part", "p2"))

    def test_wrong_kinds(self):
        one, other = ("p0",), ("p1",)
        for first, second in itertools.permutations(KINDS, 2):
            self.refused(WrongKind, [(one, first.single(A, 2)), (other, second.single(B, 2))])
        for kind in KINDS:
            self.refused(WrongKind, [(one, kind.single(A, 2)), (other, kind.single(B, 3))])
            self.refused(WrongKind, singles(kind, 3, 2) + [(("p9",), kind.empty(1))])

    def test_shared_keys(self):
        one, other, last = ("p0",), ("p1",), ("p2",)
        for kind in KINDS:
            self.refused(SharedKey, [(one, kind.single(A, 2)), (other, kind.single(A, 2))], ("key", "a"))
        parcels = [(one, Uniform(3, 3, [B, D])), (other, Uniform(3, 9, [C, D, E])), (last, Uniform(3, 2, [A, C]))]
        self.refused(SharedKey, parcels, ("key", "c"))
        self.refused(SharedKey, parcels[:2], ("key", "d"))

    def test_the_order_of_the_errors(self):
        part, other = ("p0",), ("p1",)
        self.refused(SharedPart, [(part, Uniform.single(A, 2)), (part, Weighted.single(A, 3))], ("part", "p0"))
        self.refused(WrongKind, [(part, Uniform.single(A, 2)), (other, Weighted.single(A, 2))])
        self.refused(WrongKind, [(part, Optimal.single(A, 2)), (other, Optimal.single(A, 3))])

    def test_too_many_parcels_where_they_are_merged(self):
        shared = [(("p0",), Uniform.single(A, 2)), (("p0",), Weighted.single(A, 3))]
        apart = [((f"p{number}",), Uniform.empty(2)) for number in range(8)]
        for parcels in (apart[:7], apart, shared + apart[:5], shared[:1] * 7):
            for call in (lambda: merge_all(parcels, {}, NoDice()), lambda: law_of_merging(parcels, {}),
                         lambda: reach(parcels, {})):
                with self.assertRaises(TooLarge) as caught:
                    call()
                self.assertEqual(caught.exception.limit, "parcels")
        self.assertEqual(merge_all(apart[:6], {}, NoDice())[1].view(), (2, 0, ()))


class SituationTest(unittest.TestCase):
    def test_the_pairs_in_their_order(self):
        parcels = [(("p2",), Uniform.single(B, 2)), (("p0", "p1"), Uniform(2, 5, [A, C]))]
        first, second = (("p2",), (2, 1, (B,))), (("p0", "p1"), (2, 5, (A, C)))
        self.assertEqual((situation(parcels), situation(parcels[::-1])), ((first, second), (second, first)))
        self.assertEqual((situation(parcels[:1]), situation([])), ((first,), ()))

    def test_other_kinds(self):
        self.assertEqual(situation([(("p",), Weighted(2, 9, [C, B]))]), ((("p",), (2, 9, (C, B))),))
        self.assertEqual(situation([(("p",), Optimal(1, [(A, (3, 1))]))]), ((("p",), (1, ((A, (3, 1)),))),))


class ChoiceTest(unittest.TestCase):
    def test_pairs(self):
        parcels = singles(Uniform, 4, 2)
        for pair in itertools.combinations(range(4), 2):
            self.assertEqual(choice(parcels, {situation(parcels): pair}), pair)

    def test_pairs_that_are_none(self):
        parcels = singles(Uniform, 3, 2)
        for pair in ((1, 0), (2, 1), (1, 1), (0, 0), (0, 3), (2, 3), (-1, 1), (-2, -1), (7, 9), (1, -1)):
            self.assertEqual(choice(parcels, {situation(parcels): pair}), (0, 1))

    def test_situations_that_the_strategy_does_not_have(self):
        parcels = singles(Uniform, 3, 2)
        self.assertEqual(choice(parcels, {}), (0, 1))
        self.assertEqual(choice(parcels, {situation(parcels[::-1]): (1, 2), situation(parcels[:2]): (1, 2)}), (0, 1))

    def test_what_is_passed_stays(self):
        parcels = singles(Uniform, 3, 2)
        strategy = {situation(parcels): (1, 2)}
        views = views_of(parcels)
        choice(parcels, strategy)
        self.assertEqual((views_of(parcels), strategy), (views, {situation(parcels): (1, 2)}))


class MergeAllTest(unittest.TestCase):
    def test_a_single_parcel(self):
        for kind in KINDS:
            parts, sample = merge_all(singles(kind, 1, 2), {}, NoDice())
            self.assertEqual((parts, sample.view()), (("p0",), kind.single(A, 2).view()))

    def test_parts_ascend(self):
        parcels = [(("p3", "p9"), Uniform.single(A, 5)), (("p1", "p4"), Uniform.single(B, 5)), (("p2",), Uniform.single(C, 5))]
        parts, sample = merge_all(parcels, {situation(parcels): (1, 2)}, Mixer(0))
        self.assertEqual((parts, sample.view()), (("p1", "p2", "p3", "p4", "p9"), (5, 3, (A, B, C))))

    def test_without_a_strategy_the_first_two_are_merged(self):
        parcels = singles(Weighted, 4, 4)
        # 0 with 1, then 2 with 3, as the new ones come behind the others, then both; a tape of zeros takes the first.
        self.assertEqual(merge_all(parcels, {}, Tape([]))[1].kept, [A, B, C, D])
        self.assertEqual(merge_all(parcels, {situation(parcels): (3, 2)}, Tape([]))[1].kept, [A, B, C, D])
        # 0 with 3, and the new one with 1 behind 2: first 1 with 2, then these two.
        self.assertEqual(merge_all(parcels, {situation(parcels): (0, 3)}, Tape([]))[1].kept, [A, D, B, C])

    def test_the_first_of_the_pair_has_the_merge(self):
        parcels = singles(Weighted, 2, 2)
        self.assertEqual(merge_all(parcels, {}, Tape([0]))[1].kept, [A, B])
        self.assertEqual(merge_all(parcels[::-1], {}, Tape([0]))[1].kept, [B, A])

    def test_a_strategy_is_followed_to_the_end(self):
        for kind in KINDS:
            for chooser in (plain_choice, last_choice, choice_by_kept):
                parcels = singles(kind, 4, 2)
                strategy = strategy_of(parcels, chooser)
                for seed in range(10):
                    dice = Mixer(seed)
                    rows = parcels
                    while len(rows) > 1:
                        rows = merged_at(rows, *chooser(rows), dice)
                    found = merge_all(parcels, strategy, Mixer(seed))
                    self.assertEqual(views_of([found]), views_of(rows))

    def test_what_is_passed_stays(self):
        for kind in KINDS:
            parcels = singles(kind, 4, 1)
            strategy = {situation(parcels): (1, 2)}
            views, told = views_of(parcels), dict(strategy)
            merge_all(parcels, strategy, Mixer(1))
            law_of_merging(parcels, strategy)
            reach(parcels, {})
            self.assertEqual((views_of(parcels), strategy), (views, told))


class LawOfMergingTest(unittest.TestCase):
    def test_a_single_parcel(self):
        for kind in KINDS:
            self.assertEqual(law_of_merging(singles(kind, 1, 2), {}), [(kind.single(A, 2).view(), (1, 1))])

    def test_all_draws(self):
        for kind in KINDS:
            for chooser in (plain_choice, last_choice, choice_by_kept):
                parcels = singles(kind, 4, 2)
                strategy = strategy_of(parcels, chooser)
                told = rows_of(chances_of(lambda dice: merge_all(parcels, strategy, dice)[1].view()))
                self.assertEqual(law_of_merging(parcels, strategy), told)
                self.assertIs(is_law(told), True)

    def test_too_many_runs(self):
        things = [(f"k{number}", "g", 1, 0) for number in range(10)]
        parcels = [(("p0",), Uniform(5, 5, things[:5])), (("p1",), Uniform(5, 5, things[5:]))]
        for call in (lambda: law_of_merging(parcels, {}), lambda: reach(parcels, {})):
            with self.assertRaises(TooLarge) as caught:
                call()
            self.assertEqual(caught.exception.limit, "runs")
        parcels = [(("p0",), Uniform(5, 5, things[:5])), (("p1",), Uniform(5, 4, things[6:]))]
        self.assertEqual(len(law_of_merging(parcels, {})), 126)
        self.assertEqual(reach(parcels, {})[:2], ((0, 1), (0, 1)))

    def test_the_runs_of_all_merges_together(self):
        # two times 2 runs for parcels of one item each, then 12 for the two pairs
        parcels = singles(Uniform, 4, 2)
        with mock.patch("samphire.explore.MOST_RUNS", 48):
            self.assertEqual(law_of_merging(parcels, {}), uniform_law(THINGS[:4], 2))
        with mock.patch("samphire.explore.MOST_RUNS", 47):
            self.assertRaises(TooLarge, law_of_merging, parcels, {})


class FactsTest(unittest.TestCase):
    def test_uniform_and_weighted_samples_have_the_plain_law(self):
        for kind, plain in ((Uniform, uniform_law), (Weighted, weighted_law)):
            for number in (2, 3, 4):
                for size in (1, 2, 3):
                    for chooser in (plain_choice, last_choice, choice_by_kept):
                        with self.subTest(kind.__name__, number=number, size=size, chooser=chooser.__name__):
                            parcels = singles(kind, number, size)
                            found = law_of_merging(parcels, strategy_of(parcels, chooser))
                            self.assertEqual(found, plain(THINGS[:number], size))

    def test_optimal_samples_keep_each_item_with_its_chance(self):
        for number in (2, 3, 4):
            for size in (1, 2, 3):
                things = THINGS[:number]
                bar = threshold([(item[2], 1) for item in things], size)
                for chooser in (plain_choice, last_choice, choice_by_kept):
                    parcels = singles(Optimal, number, size)
                    rows = law_of_merging(parcels, strategy_of(parcels, chooser))
                    for item, told in zip(things, item_chances(things, size)):
                        kept = [(dict(view[1])[item], exact(chance)) for view, chance in rows if item in dict(view[1])]
                        self.assertEqual(pair_of(sum(chance for _, chance in kept)), told)
                        adjusted = max([(item[2], 1), bar], key=exact)
                        self.assertEqual({weight for weight, _ in kept}, {adjusted})


class ReachTest(unittest.TestCase):
    def worths(self, parcels):
        """Some worths of the views that can come at the end."""
        views = [view for view, _ in law_of_merging(parcels, {})]
        more = [view for view, _ in law_of_merging(parcels[::-1], {})]
        views = sorted(set(views) | set(more))
        numbered = {view: place * place - 3 for place, view in enumerate(views)}
        return [{}, {views[0]: 7}, {views[-1]: -7, ("no view",): 50}, numbered]

    def test_all_strategies(self):
        for kind in KINDS:
            for number, size in ((1, 1), (2, 1), (3, 1), (3, 2), (4, 1), (4, 2), (4, 3)):
                parcels = singles(kind, number, size)
                for worth in self.worths(parcels):
                    with self.subTest(kind.__name__, number=number, size=size, worth=worth):
                        low, high = {}, {}
                        least, greatest = ends_of(parcels, worth, low, high)
                        found = reach(parcels, worth)
                        self.assertEqual(found, (pair_of(least), pair_of(greatest), low, high))

    def test_a_single_parcel(self):
        parcels = singles(Uniform, 1, 2)
        self.assertEqual(reach(parcels, {(2, 1, (A,)): -5}), ((-5, 1), (-5, 1), {}, {}))
        self.assertEqual(reach(parcels, {}), ((0, 1), (0, 1), {}, {}))

    def test_uniform_and_weighted_samples_cannot_be_shifted(self):
        for kind in (Uniform, Weighted):
            parcels = singles(kind, 4, 2)
            for worth in self.worths(parcels):
                least, greatest, low, high = reach(parcels, worth)
                told = sum(exact(chance) * worth.get(view, 0) for view, chance in law_of_merging(parcels, {}))
                self.assertEqual((least, greatest), (pair_of(told), pair_of(told)))
                self.assertEqual((set(low.values()), low), ({(0, 1)}, high))

    def test_optimal_samples_can_be_shifted(self):
        parcels = [((f"p{place}",), Optimal.single((f"k{place}", "g", weight, 0), 2))
                   for place, weight in enumerate([1, 2, 3, 4])]
        worth = {}
        for chooser in (plain_choice, last_choice):
            for view, _ in law_of_merging(parcels, strategy_of(parcels, chooser)):
                worth[view] = 10 if ("k0" in str(view)) == ("k1" in str(view)) else 0
        least, greatest, low, high = reach(parcels, worth)
        self.assertLess(exact(least), exact(greatest))
        for told, strategy in ((least, low), (greatest, high)):
            rows = law_of_merging(parcels, strategy)
            self.assertEqual(pair_of(sum(exact(chance) * worth.get(view, 0) for view, chance in rows)), told)

    def test_each_situation_that_can_come(self):
        parcels = singles(Weighted, 4, 2)
        told = set(strategy_of(parcels, plain_choice))
        _, _, low, high = reach(parcels, {})
        self.assertEqual((set(low), set(high), len(told)), (told, told, 61))

    def test_too_many_situations(self):
        for kind, number, size in ((Uniform, 6, 1), (Weighted, 6, 2), (Optimal, 6, 1)):
            with self.assertRaises(TooLarge) as caught:
                reach(singles(kind, number, size), {})
            self.assertEqual(caught.exception.limit, "states")
        for kind in (Uniform, Optimal):
            least, greatest, low, high = reach(singles(kind, 6, 2), {})
            self.assertEqual((least, greatest, len(low)), ((0, 1), (0, 1), len(high)))

    def test_situations_of_one_parcel_count_too(self):
        things = [(f"k{number:02}", "g", 1, 0) for number in range(22)]
        for size, first, second, many in ((11, 11, 8, 1981), (11, 11, 9, 2036), (14, 9, 5, 2002)):
            one = Weighted(size, first, things[:first])
            other = Weighted(size, second, things[first:first + second])
            parcels = [(("p0",), one), (("p1",), other)]
            self.assertEqual(len(law_of_merging(parcels, {})), many)
            if many < 2000:
                self.assertEqual(len(reach(parcels, {})[2]), 1)
            else:
                self.assertRaises(TooLarge, reach, parcels, {})

    def test_just_as_many_situations_as_may_be(self):
        # 1 situation of four parcels, 12 of three, 36 of two and 4 of one
        parcels = singles(Uniform, 4, 1)
        with mock.patch("samphire.ranges.MOST_STATES", 53):
            self.assertEqual(len(reach(parcels, {})[2]), 49)
        with mock.patch("samphire.ranges.MOST_STATES", 52):
            self.assertRaises(TooLarge, reach, parcels, {})

    def test_what_is_passed_stays(self):
        parcels = singles(Optimal, 3, 2)
        worth = self.worths(parcels)[3]
        told, views = dict(worth), views_of(parcels)
        _, _, low, high = reach(parcels, worth)
        low.clear()
        self.assertEqual((worth, views_of(parcels), len(high)), (told, views, 4))
        self.assertEqual(len(reach(parcels, worth)[2]), 4)


if __name__ == "__main__":
    unittest.main()
