"""Promises 13, 14 and 15: dice, tapes and mixers."""

import itertools
import unittest

from samphire.dice import Mixer, Tape, number_at

# The first three numbers r of a seed by the recurrence, before they are taken modulo the sum of the weights.
FIRST_PICKS = {
    0: [103661365730131, 2773249401419149879, 4463907773480028210],
    1: [207322731460262, 934812786558395502, 4316129532827635811],
    12345: [1279800968593851623, 1380117364381302389, 1757497474742785483],
    2147483645: [4611582354914174125, 1838436614860754377, 147778242799876046],
    2147483646: [103661365730131, 2773249401419149879, 4463907773480028210],
    2147483647: [207322731460262, 934812786558395502, 4316129532827635811],
    1000000000007: [95605095165158538, 3954965294250070199, 1781864087024851282],
}


class NumberAtTest(unittest.TestCase):
    def numbers(self, weights):
        return [number_at(weights, place) for place in range(sum(weights))]

    def test_weights_without_zeros(self):
        self.assertEqual(self.numbers([1]), [0])
        self.assertEqual(self.numbers([3]), [0, 0, 0])
        self.assertEqual(self.numbers([1, 1, 1]), [0, 1, 2])
        self.assertEqual(self.numbers([2, 1, 3]), [0, 0, 1, 2, 2, 2])

    def test_zeros(self):
        self.assertEqual(self.numbers([0, 2, 1]), [1, 1, 2])
        self.assertEqual(self.numbers([0, 0, 1]), [2])
        self.assertEqual(self.numbers([2, 0, 3]), [0, 0, 2, 2, 2])
        self.assertEqual(self.numbers([1, 0, 0, 1]), [0, 3])
        self.assertEqual(self.numbers([2, 1, 0]), [0, 0, 1])
        self.assertEqual(self.numbers([0, 1, 0, 2, 0]), [1, 3, 3])

    def test_the_least_number_whose_sum_is_greater(self):
        for weights in itertools.product(range(3), repeat=4):
            for place in range(sum(weights)):
                sums = [sum(weights[:number + 1]) for number in range(4)]
                least = min([number for number in range(4) if sums[number] > place])
                self.assertEqual(number_at(list(weights), place), least)

    def test_great_weights(self):
        self.assertEqual(number_at([10 ** 40, 10 ** 40], 10 ** 40 - 1), 0)
        self.assertEqual(number_at([10 ** 40, 10 ** 40], 10 ** 40), 1)


class TapeTest(unittest.TestCase):
    def test_the_example(self):
        tape = Tape([7, 2])
        self.assertEqual((tape.pick([2, 0, 3]), tape.pick([1, 1]), tape.pick([0, 5])), (2, 0, 1))

    def test_numbers_below_at_and_above_the_sum(self):
        tape = Tape([0, 1, 2, 3, 4, 5, 6, 3000002])
        self.assertEqual([tape.pick([1, 2]) for _ in range(8)], [0, 1, 1, 0, 1, 1, 0, 1])

    def test_picks_behind_the_end(self):
        tape = Tape([])
        self.assertEqual([tape.pick([1, 1]), tape.pick([0, 1]), tape.pick([0, 0, 2, 1])], [0, 1, 2])
        tape = Tape([1])
        self.assertEqual([tape.pick([1, 1]) for _ in range(4)], [1, 0, 0, 0])

    def test_used(self):
        tape = Tape([5, 5])
        counts = [tape.used()]
        for _ in range(4):
            tape.pick([1, 1])
            counts.append(tape.used())
        self.assertEqual(counts, [0, 1, 2, 3, 4])
        self.assertEqual(tape.used(), 4)

    def test_the_list_is_copied(self):
        numbers = [1, 1]
        tape = Tape(numbers)
        numbers[0] = 0
        numbers.append(1)
        self.assertEqual([tape.pick([1, 1]) for _ in range(3)], [1, 1, 0])
        self.assertEqual(numbers, [0, 1, 1])

    def test_the_weights_stay_as_they_are(self):
        weights = [0, 2, 0, 1]
        Tape([2]).pick(weights)
        self.assertEqual(weights, [0, 2, 0, 1])

    def test_two_tapes_go_their_own_ways(self):
        numbers = [1, 0, 1]
        one = Tape(numbers)
        other = Tape(numbers)
        self.assertEqual([one.pick([1, 1]), one.pick([1, 1]), other.pick([1, 1])], [1, 0, 1])
        self.assertEqual((one.used(), other.used()), (2, 1))


class MixerTest(unittest.TestCase):
    def test_the_first_picks(self):
        for seed, places in FIRST_PICKS.items():
            for count in (1, 2, 7, 1000):
                with self.subTest(seed, count=count):
                    mixer = Mixer(seed)
                    self.assertEqual([mixer.pick([1] * count) for _ in places], [place % count for place in places])

    def test_the_whole_number_is_taken(self):
        for seed, places in FIRST_PICKS.items():
            for place in (places[0] - 1, places[0], places[0] + 1):
                with self.subTest(seed, place=place):
                    self.assertEqual(Mixer(seed).pick([place, 2 ** 62]), int(places[0] >= place))

    def test_picks_by_weights(self):
        mixer = Mixer(0)
        # r modulo 5 is 1, 4 and 0
        self.assertEqual([mixer.pick([0, 2, 0, 3]) for _ in range(3)], [1, 3, 1])

    def test_each_pick_goes_on_alike_whatever_the_weights_are(self):
        mixer = Mixer(12345)
        mixer.pick([1])
        mixer.pick([3, 0, 4])
        self.assertEqual(mixer.pick([1] * 1000), 483)

    def test_two_mixers_go_their_own_ways(self):
        one = Mixer(1)
        other = Mixer(1)
        found = [one.pick([1] * 1000), one.pick([1] * 1000), other.pick([1] * 1000), one.pick([1] * 1000)]
        self.assertEqual(found + [other.pick([1] * 1000)], [262, 502, 262, 811, 502])

    def test_the_weights_stay_as_they_are(self):
        weights = [0, 2, 0, 1]
        Mixer(5).pick(weights)
        self.assertEqual(weights, [0, 2, 0, 1])


if __name__ == "__main__":
    unittest.main()
