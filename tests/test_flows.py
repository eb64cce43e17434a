"""Promise 56: flows, greatest flows, cuts, and the least cut."""

import itertools
import unittest

from samphire.dice import Mixer
from samphire.flows import cut_bound, greatest_flow, is_flow


def all_cuts(supplies):
    places = range(len(supplies))
    return [set(cut) for many in range(len(supplies) + 1) for cut in itertools.combinations(places, many)]


def bound_of(supplies, demands, arcs, cut):
    """The bound of a cut, by its definition."""
    outside = sum(supply for place, supply in enumerate(supplies) if place not in cut)
    return outside + sum(demands[place] for place in {other for one, other in arcs if one in cut})


def sums_fit(supplies, demands, arcs, flow):
    """True if the amounts are a flow, by the definition."""
    for side, limits in enumerate((supplies, demands)):
        for place, limit in enumerate(limits):
            if sum(amount for arc, amount in zip(arcs, flow) if arc[side] == place) > limit:
                return False
    return len(flow) == len(arcs) and all(amount >= 0 for amount in flow)


def all_arcs(supplies, demands):
    return [(one, other) for one in range(len(supplies)) for other in range(len(demands))]


class GreatestFlowTest(unittest.TestCase):
    def check(self, supplies, demands, arcs):
        given = (list(supplies), list(demands), list(arcs))
        size, flow, cut = greatest_flow(supplies, demands, arcs)
        self.assertEqual((supplies, demands, arcs), given)
        self.assertTrue(sums_fit(supplies, demands, arcs, flow))
        self.assertEqual(sum(flow), size)
        cuts = all_cuts(supplies)
        bounds = [bound_of(supplies, demands, arcs, one) for one in cuts]
        self.assertEqual(size, min(bounds))
        self.assertEqual(set(cut), set.intersection(*[one for one, bound in zip(cuts, bounds) if bound == size]))
        self.assertEqual(cut, sorted(set(cut)))
        return size, cut

    def test_certain_values(self):
        self.assertEqual(self.check([2, 3], [4, 2], [(0, 0), (1, 0)]), (4, [0, 1]))
        self.assertEqual(self.check([5], [3], [(0, 0)]), (3, [0]))
        self.assertEqual(self.check([3], [5], [(0, 0)]), (3, []))
        self.assertEqual(self.check([3], [3], [(0, 0)]), (3, []))
        self.assertEqual(self.check([1, 1], [1, 1], [(0, 0), (1, 0), (0, 1)]), (2, []))

    def test_what_flows_must_be_taken_back(self):
        chain = [(0, 0), (0, 1), (1, 0), (1, 2), (2, 1), (3, 2)]
        for arcs in itertools.permutations(chain):
            self.assertEqual(self.check([1, 1, 1, 1], [1, 1, 1], list(arcs)), (3, [0, 1, 2, 3]))

    def test_all_arcs_of_small_lists(self):
        for supplies, demands in (([2, 1, 3], [1, 2]), ([1, 1], [2, 0, 1]), ([0, 4], [3, 3]), ([3, 1, 1], [2, 2, 1])):
            pairs = all_arcs(supplies, demands)
            for many in range(len(pairs) + 1):
                for arcs in itertools.combinations(pairs, many):
                    self.check(supplies, demands, list(arcs))

    def test_all_small_numbers(self):
        arcs = [(1, 1), (0, 0), (2, 1), (1, 0)]
        for numbers in itertools.product(range(4), repeat=5):
            self.check(list(numbers[:3]), list(numbers[3:]), arcs)

    def test_arcs_in_any_order(self):
        supplies, demands = [4, 2, 3], [3, 3, 1]
        arcs = [(0, 0), (0, 1), (1, 1), (2, 0), (2, 2)]
        told = self.check(supplies, demands, arcs)
        for order in itertools.permutations(arcs):
            self.assertEqual(self.check(supplies, demands, list(order)), told)

    def test_mixed_lists(self):
        dice = Mixer(7)
        for _ in range(400):
            supplies = [(0, 1, 2, 5, 9, 10 ** 9)[dice.pick([1] * 6)] for _ in range(dice.pick([1] * 6))]
            demands = [(0, 1, 3, 4, 8, 10 ** 9)[dice.pick([1] * 6)] for _ in range(dice.pick([1] * 6))]
            arcs = [arc for arc in all_arcs(supplies, demands) if dice.pick([1, 1])]
            self.check(supplies, demands, arcs)

    def test_nothing(self):
        self.assertEqual(greatest_flow([], [], []), (0, [], []))
        self.assertEqual(greatest_flow([], [3], []), (0, [], []))
        self.assertEqual(greatest_flow([3], [], []), (0, [], [0]))
        self.assertEqual(greatest_flow([0], [], []), (0, [], []))

    def test_no_arcs(self):
        self.assertEqual(greatest_flow([2, 0, 3], [4, 4], []), (0, [], [0, 2]))

    def test_supplies_and_demands_that_are_zero(self):
        arcs = all_arcs([0, 0], [0, 0])
        self.assertEqual(greatest_flow([0, 0], [5, 5], arcs), (0, [0] * 4, []))
        self.assertEqual(greatest_flow([5, 5], [0, 0], arcs), (0, [0] * 4, [0, 1]))
        # The supply 0 is in the least cut neither, although its demand is overdrawn.
        self.assertEqual(greatest_flow([0, 5], [3], [(0, 0), (1, 0)])[2], [1])

    def test_a_supply_that_is_used_up(self):
        # Both supplies want the same demand, so both are in the cut, whichever of them is used up.
        self.assertEqual(self.check([1, 5], [3], [(0, 0), (1, 0)]), (3, [0, 1]))
        self.assertEqual(self.check([1, 5], [3], [(1, 0), (0, 0)]), (3, [0, 1]))
        self.assertEqual(self.check([1, 5], [3, 1], [(1, 0), (0, 1)]), (4, [1]))

    def test_great_numbers(self):
        many = 10 ** 9
        self.assertEqual(self.check([many, many, 1], [many, many - 1], all_arcs([0] * 3, [0] * 2))[0], 2 * many - 1)
        self.assertEqual(self.check([many, many], [many, many], [(0, 0), (0, 1), (1, 0)]), (2 * many, []))
        self.assertEqual(self.check([many, many], [1, many], [(0, 0), (0, 1), (1, 0)]), (many + 1, [1]))

    def test_larger_lists(self):
        dice = Mixer(3)
        supplies = [dice.pick([1] * 1000) for _ in range(120)]
        demands = [dice.pick([1] * 1000) for _ in range(120)]
        arcs = [arc for arc in all_arcs(supplies, demands) if dice.pick([40, 1])]
        size, flow, cut = greatest_flow(supplies, demands, arcs)
        self.assertTrue(sums_fit(supplies, demands, arcs, flow))
        self.assertEqual((sum(flow), bound_of(supplies, demands, arcs, set(cut))), (size, size))

    def test_a_long_chain(self):
        # Paths that go to and fro through all places: nothing here may recur that often.
        many = 3000
        arcs = [(place, place) for place in range(many)] + [(place + 1, place) for place in range(many - 1)]
        for order in (arcs, arcs[::-1]):
            size, flow, cut = greatest_flow([1] * many, [1] * many, order)
            self.assertEqual((size, cut), (many, []))
        size, flow, cut = greatest_flow([1] * many, [1] * (many - 1), [arc for arc in arcs if arc[1] < many - 1])
        self.assertEqual((size, len(cut)), (many - 1, many))

    def test_what_is_returned_is_new(self):
        supplies, demands, arcs = [2, 3], [4, 2], [(0, 0), (1, 0)]
        size, flow, cut = greatest_flow(supplies, demands, arcs)
        flow.clear()
        cut.clear()
        self.assertEqual((supplies, demands, arcs), ([2, 3], [4, 2], [(0, 0), (1, 0)]))
        self.assertEqual(greatest_flow(supplies, demands, arcs)[2], [0, 1])


class IsFlowTest(unittest.TestCase):
    SUPPLIES, DEMANDS, ARCS = [3, 2], [2, 4], [(0, 0), (0, 1), (1, 1)]

    def flows(self, flow):
        return is_flow(self.SUPPLIES, self.DEMANDS, self.ARCS, flow)

    def test_flows(self):
        for flow in ([0, 0, 0], [2, 1, 2], [0, 3, 1], [1, 0, 2]):
            self.assertIs(self.flows(flow), True)

    def test_an_amount_below_zero(self):
        for flow in ([-1, 0, 0], [0, 0, -1], [-1, 3, 1], [0, -2, 0]):
            self.assertIs(self.flows(flow), False)

    def test_a_supply_that_is_overdrawn(self):
        self.assertIs(self.flows([1, 2, 0]), True)
        self.assertIs(self.flows([1, 3, 0]), False)
        self.assertIs(self.flows([0, 0, 3]), False)

    def test_a_demand_that_is_overdrawn(self):
        self.assertIs(self.flows([3, 0, 0]), False)
        self.assertIs(self.flows([0, 3, 1]), True)
        self.assertIs(self.flows([0, 3, 2]), False)

    def test_a_list_that_is_too_short_or_too_long(self):
        for flow in ([], [0], [0, 0], [0, 0, 0, 0]):
            self.assertIs(self.flows(flow), False)
        self.assertIs(is_flow([], [], [], []), True)
        self.assertIs(is_flow([2], [2], [], []), True)
        self.assertIs(is_flow([], [], [], [0]), False)

    def test_by_the_definition(self):
        for flow in itertools.product(range(-1, 5), repeat=3):
            told = sums_fit(self.SUPPLIES, self.DEMANDS, self.ARCS, flow)
            self.assertIs(self.flows(list(flow)), told)

    def test_what_is_passed_stays(self):
        flow = [2, 1, 2]
        self.flows(flow)
        self.assertEqual((flow, self.SUPPLIES, self.DEMANDS), ([2, 1, 2], [3, 2], [2, 4]))


class CutBoundTest(unittest.TestCase):
    def test_the_empty_cut(self):
        self.assertEqual(cut_bound([2, 3], [4, 2], [(0, 0), (1, 0)], []), 5)
        self.assertEqual(cut_bound([], [4], [], []), 0)

    def test_certain_values(self):
        self.assertEqual(cut_bound([2, 3], [4, 2], [(0, 0), (1, 0)], [0, 1]), 4)
        self.assertEqual(cut_bound([2, 3], [4, 2], [(0, 0), (1, 0)], [0]), 7)
        self.assertEqual(cut_bound([2, 3], [4, 2], [(0, 0), (0, 1)], [1]), 2)

    def test_cuts_in_any_order(self):
        supplies, demands = [1, 20, 300], [5000, 70000, 900000]
        arcs = [(0, 1), (2, 0), (0, 0), (1, 1), (2, 2)]
        for cut in all_cuts(supplies):
            for order in itertools.permutations(cut):
                told = bound_of(supplies, demands, arcs, cut)
                self.assertEqual(cut_bound(supplies, demands, arcs, list(order)), told)

    def test_what_is_passed_stays(self):
        cut = [1, 0]
        cut_bound([2, 3], [4, 2], [(0, 0), (1, 0)], cut)
        self.assertEqual(cut, [1, 0])


if __name__ == "__main__":
    unittest.main()
