"""Promise 16: explorers, dice that go through all picks."""

import unittest

from oracles import all_runs, chances_of, rows_of

from samphire.dice import Tape
from samphire.errors import NotEnded, TooLarge
from samphire.explore import Explorer
from samphire.laws import is_law

ROWS = [
    [1], [2, 1], [0, 1, 2], [3, 0, 1], [1, 1, 0], [0, 0, 5], [0, 2, 0, 0, 1, 0], [1, 0, 0, 0, 4], [7, 0], [1, 2, 3, 4],
]


def weights_at(seed, picks):
    """The weights of the pick behind other picks, which are different from branch to branch."""
    number = seed
    for pick in picks:
        number = number * 7 + pick * 3 + 1
    return ROWS[number % len(ROWS)]


def tree(seed, levels):
    """Something that draws so many times, fewer times on some branches, and ends with all that it drew."""
    def draw(dice):
        picks = []
        while len(picks) < levels and sum(picks) < 6:
            picks.append(dice.pick(weights_at(seed, picks)))
        return tuple(picks)
    return draw


def explored(draw, outcome_of=lambda outcome: outcome):
    """The explorer behind its last run, and the list of the outcomes in the order of the runs."""
    explorer = Explorer()
    found = []
    while explorer.begin():
        found.append(draw(explorer))
        explorer.end(outcome_of(found[-1]))
    return explorer, found


def counted_to(number):
    """An explorer in the middle of as many runs, each of one pick, as there are to be."""
    explorer = Explorer()
    for _ in range(number):
        explorer.begin()
        explorer.pick([1] * number)
        explorer.end(0)
    return explorer


class RunsTest(unittest.TestCase):
    def test_trees_of_one_to_four_levels(self):
        for levels in (1, 2, 3, 4):
            for seed in range(30):
                with self.subTest(levels=levels, seed=seed):
                    draw = tree(seed, levels)
                    explorer, found = explored(draw)
                    told = all_runs(draw)
                    self.assertEqual(found, [tuple(picks) for picks, _, _ in told])
                    self.assertEqual(found, sorted(set(found)))
                    self.assertEqual(explorer.runs(), len(told))
                    self.assertEqual(explorer.gathered(), rows_of(chances_of(draw)))

    def test_zeros_at_the_front_in_the_middle_and_at_the_end(self):
        for weights, numbers in (([0, 0, 1, 2], [2, 3]), ([1, 0, 0, 2], [0, 3]), ([1, 2, 0, 0], [0, 1]),
                                 ([0, 1, 0, 2, 0], [1, 3]), ([0, 4, 0], [1])):
            with self.subTest(weights):
                explorer, found = explored(lambda dice: dice.pick(weights))
                self.assertEqual(found, numbers)
                explorer, found = explored(lambda dice: (dice.pick(weights), dice.pick([0, 1, 1]), dice.pick(weights)))
                self.assertEqual(found, [(one, two, three) for one in numbers for two in (1, 2) for three in numbers])

    def test_the_lists_of_picks_may_have_different_lengths(self):
        def draw(dice):
            first = dice.pick([1, 1, 1])
            return (first,) + tuple(dice.pick([1, 1]) for _ in range(2 - first))
        explorer, found = explored(draw)
        self.assertEqual(found, [(0, 0, 0), (0, 0, 1), (0, 1, 0), (0, 1, 1), (1, 0), (1, 1), (2,)])
        self.assertEqual([chance for _, chance in explorer.gathered()], [(1, 12)] * 4 + [(1, 6)] * 2 + [(1, 3)])

    def test_a_run_without_a_pick(self):
        explorer = Explorer()
        self.assertIs(explorer.begin(), True)
        explorer.end("nothing")
        self.assertIs(explorer.begin(), False)
        self.assertEqual((explorer.runs(), explorer.gathered()), (1, [("nothing", (1, 1))]))

    def test_one_way_alone(self):
        explorer, found = explored(lambda dice: (dice.pick([5]), dice.pick([0, 3])))
        self.assertEqual((found, explorer.gathered()), ([(0, 1)], [((0, 1), (1, 1))]))

    def test_runs_counts_the_ended_ones(self):
        explorer = Explorer()
        counts = [explorer.runs()]
        for _ in range(3):
            explorer.begin()
            explorer.pick([1, 1, 1])
            counts.append(explorer.runs())
            explorer.end(7)
            counts.append(explorer.runs())
        explorer.begin()
        self.assertEqual(counts + [explorer.runs()], [0, 0, 1, 1, 2, 2, 3, 3])

    def test_begin_again_and_again_behind_the_last_run(self):
        explorer, _ = explored(lambda dice: dice.pick([1, 2]))
        rows = explorer.gathered()
        for _ in range(3):
            self.assertIs(explorer.begin(), False)
            self.assertEqual((explorer.gathered(), explorer.runs()), (rows, 2))

    def test_weights_that_are_changed_by_the_caller(self):
        def draw(dice):
            weights = [1, 3]
            first = dice.pick(weights)
            weights[0] = weights[1] = 50
            weights.append(8)
            return first
        explorer, found = explored(draw)
        self.assertEqual((found, explorer.gathered()), ([0, 1], [(0, (1, 4)), (1, (3, 4))]))

    def test_weights_stay_as_they_are(self):
        weights = [0, 2, 0, 1]
        explored(lambda dice: dice.pick(weights))
        self.assertEqual(weights, [0, 2, 0, 1])

    def test_two_explorers_go_their_own_ways(self):
        one = Explorer()
        other = Explorer()
        one.begin()
        other.begin()
        found = [one.pick([1, 1]), one.pick([1, 1]), other.pick([0, 1])]
        one.end(1)
        one.begin()
        found.extend([one.pick([1, 1]), one.pick([1, 1]), other.pick([0, 0, 1])])
        self.assertEqual(found, [0, 0, 1, 0, 1, 2])


class GatheredTest(unittest.TestCase):
    def test_the_products_of_the_chances(self):
        explorer, _ = explored(lambda dice: (dice.pick([1, 2]), dice.pick([3, 0, 5])))
        rows = [((0, 0), (1, 8)), ((0, 2), (5, 24)), ((1, 0), (1, 4)), ((1, 2), (5, 12))]
        self.assertEqual(explorer.gathered(), rows)

    def test_outcomes_that_come_several_times(self):
        def draw(dice):
            return dice.pick([1, 2, 3]) + dice.pick([1, 1, 2])
        explorer, _ = explored(draw)
        self.assertEqual(explorer.gathered(), rows_of(chances_of(draw)))
        self.assertEqual([outcome for outcome, _ in explorer.gathered()], [0, 1, 2, 3, 4])

    def test_outcomes_that_descend(self):
        explorer, _ = explored(lambda dice: -dice.pick([1, 2, 1]))
        self.assertEqual(explorer.gathered(), [(-2, (1, 4)), (-1, (1, 2)), (0, (1, 4))])

    def test_strings_and_tuples_as_outcomes(self):
        explorer, _ = explored(lambda dice: ["pear", "apple", "pear"][dice.pick([1, 1, 1])])
        self.assertEqual(explorer.gathered(), [("apple", (1, 3)), ("pear", (2, 3))])
        told = [(2, ("b", (1,))), (1, ("c", (4,))), (2, ("b", (0,))), (1, ("c", (4,)))]
        explorer, _ = explored(lambda dice: told[dice.pick([1, 2, 3, 4])])
        rows = [((1, ("c", (4,))), (3, 5)), ((2, ("b", (0,))), (3, 10)), ((2, ("b", (1,))), (1, 10))]
        self.assertEqual(explorer.gathered(), rows)

    def test_outcomes_that_are_nested_deeply(self):
        deep = ((((((((((1,),),),),),),),),),)
        explorer, _ = explored(lambda dice: (dice.pick([1, 1]) // 2, deep))
        self.assertEqual(explorer.gathered(), [((0, deep), (1, 1))])

    def test_great_weights(self):
        explorer, _ = explored(lambda dice: dice.pick([10 ** 30, 2 * 10 ** 30]))
        self.assertEqual(explorer.gathered(), [(0, (1, 3)), (1, (2, 3))])

    def test_each_call_gives_a_new_list(self):
        explorer, _ = explored(lambda dice: dice.pick([1, 1]))
        explorer.gathered().clear()
        self.assertEqual(explorer.gathered(), [(0, (1, 2)), (1, (1, 2))])

    def test_what_is_gathered_is_a_law(self):
        for seed in range(30):
            explorer, _ = explored(tree(seed, 4), sum)
            self.assertIs(is_law(explorer.gathered()), True)


class RefusedTest(unittest.TestCase):
    def test_begin_while_a_run_has_not_ended(self):
        explorer = Explorer()
        found = []
        while explorer.begin():
            self.assertRaises(NotEnded, explorer.begin)
            first = explorer.pick([1, 1])
            self.assertRaises(NotEnded, explorer.begin)
            second = explorer.pick([0, 1, 2])
            self.assertRaises(NotEnded, explorer.begin)
            found.append((first, second))
            explorer.end((first, second))
        self.assertEqual((found, explorer.runs()), ([(0, 1), (0, 2), (1, 1), (1, 2)], 4))
        self.assertEqual([chance for _, chance in explorer.gathered()], [(1, 6), (1, 3), (1, 6), (1, 3)])

    def test_gathered_ahead_of_the_end(self):
        explorer = Explorer()
        self.assertRaises(NotEnded, explorer.gathered)
        found = []
        while explorer.begin():
            self.assertRaises(NotEnded, explorer.gathered)
            found.append(explorer.pick([1, 1, 2]))
            self.assertRaises(NotEnded, explorer.gathered)
            explorer.end(found[-1])
            self.assertRaises(NotEnded, explorer.gathered)
        self.assertEqual(found, [0, 1, 2])
        self.assertEqual(explorer.gathered(), [(0, (1, 4)), (1, (1, 4)), (2, (1, 2))])

    def test_just_20000_runs(self):
        explorer = counted_to(20000)
        self.assertRaises(NotEnded, explorer.gathered)
        self.assertIs(explorer.begin(), False)
        self.assertEqual((explorer.runs(), explorer.gathered()), (20000, [(0, (1, 1))]))

    def test_one_run_more(self):
        explorer = Explorer()
        for _ in range(20000):
            self.assertIs(explorer.begin(), True)
            explorer.pick([1] * 3)
            explorer.pick([1] * 6667)
            explorer.end("x")
        for _ in range(2):
            with self.assertRaises(TooLarge) as caught:
                explorer.begin()
            self.assertEqual((caught.exception.limit, explorer.runs()), ("runs", 20000))
            self.assertRaises(NotEnded, explorer.gathered)

    def test_the_20000th_run_that_has_not_ended(self):
        explorer = Explorer()
        for number in range(20000):
            explorer.begin()
            explorer.pick([1] * 20001)
            if number < 19999:
                explorer.end(0)
        self.assertRaises(NotEnded, explorer.begin)
        explorer.end(0)
        self.assertRaises(TooLarge, explorer.begin)


class DiceTest(unittest.TestCase):
    def test_fair_tapes_pick_with_the_gathered_chances(self):
        explorer, _ = explored(lambda dice: dice.pick([2, 0, 3]))
        picked = [Tape([number]).pick([2, 0, 3]) for number in range(5)]
        rows = [(0, (2, 5)), (2, (3, 5))]
        self.assertEqual((explorer.gathered(), picked), (rows, [0, 0, 2, 2, 2]))


if __name__ == "__main__":
    unittest.main()
