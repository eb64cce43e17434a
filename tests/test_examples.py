"""The examples of the document, as it shows them, and those of README.md."""

import doctest
import pathlib
import unittest

README = pathlib.Path(__file__).resolve().parent.parent / "README.md"

CONDITIONS = r'''
>>> from samphire.conditions import held, parse_condition, write_condition
>>> from samphire.reader import read_items
>>> from samphire.things import check_items
>>> rows = read_items("k1 red 3 -5\nk2 blue 10 7\n")
>>> rows, check_items(rows + [("k1", "red", 0, 1)])
([('k1', 'red', 3, -5), ('k2', 'blue', 10, 7)], (2, 'weight'))
>>> condition = parse_condition("weight>5 or not (group red and amount < -2)")
>>> condition
('or', ('weight', '>', 5), ('not', ('and', ('group', 'red'), ('amount', '<', -2))))
>>> write_condition(condition), [held(condition, item) for item in rows]
('weight > 5 or not (group red and amount < -2)', [False, True])
>>> write_condition(("and", ("or", ("all",), ("key", "or")), ("and", ("all",), ("all",))))
'(all or key or) and (all and all)'
'''

LAWS = '''
>>> from samphire.dice import Mixer, Tape
>>> from samphire.explore import Explorer
>>> from samphire.laws import carried, difference, joined, law_from, mean, variance
>>> tape = Tape([7, 2])
>>> tape.pick([2, 0, 3]), tape.pick([1, 1]), tape.pick([0, 5])
(2, 0, 1)
>>> explorer = Explorer()
>>> while explorer.begin():
...     first = explorer.pick([1, 2])
...     explorer.end(first + explorer.pick([3, 1][first:] + [1]))
>>> explorer.runs(), explorer.gathered()
(5, [(0, (1, 5)), (1, (2, 5)), (2, (2, 5))])
>>> rows = law_from([("b", (1, 2)), ("a", (1, 3)), ("b", (1, 6))])
>>> rows, carried(rows, {"a": "b"}), difference(rows, [("b", (1, 1))])
([('a', (1, 3)), ('b', (2, 3))], [('b', (1, 1))], 'a')
>>> mean([((1, 1), (1, 3)), ((4, 1), (2, 3))]), variance([((1, 1), (1, 3)), ((4, 1), (2, 3))]), len(joined(rows, rows))
((3, 1), (2, 1), 4)
'''

UNIFORM = '''
>>> from samphire.dice import Tape
>>> from samphire.uniform import Uniform, item_chance, pair_chance, uniform_law, uniform_merge
>>> ann, bob, cy = ("ann", "g", 2, 5), ("bob", "g", 1, 7), ("cy", "h", 3, -4)
>>> one = Uniform.single(ann, 1).merge(Uniform.single(bob, 1), Tape([1, 0]))
>>> one.view()
(1, 2, (('bob', 'g', 1, 7),))
>>> uniform_law([ann, bob, cy], 2)[0], len(uniform_law([ann, bob, cy], 2))
(((2, 3, (('ann', 'g', 2, 5), ('bob', 'g', 1, 7))), (1, 3)), 3)
>>> uniform_merge(Uniform(1, 2, [bob]), Uniform.single(cy, 1))
[((1, 3, (('bob', 'g', 1, 7),)), (2, 3)), ((1, 3, (('cy', 'h', 3, -4),)), (1, 3))]
>>> item_chance(5, 2), pair_chance(5, 2), pair_chance(2, 4)
((2, 5), (1, 10), (1, 1))
'''

WEIGHTED = '''
>>> from samphire.weighted import Weighted, order_chance, set_chance, weighted_law, weighted_merge
>>> order_chance(6, [ann, cy]), order_chance(6, [cy, ann]), set_chance(6, [ann, cy])
((1, 4), (1, 3), (7, 12))
>>> [chance for view, chance in weighted_law([ann, bob, cy], 1)]
[(1, 3), (1, 6), (1, 2)]
>>> weighted_merge(Weighted(2, 3, [ann, bob]), Weighted.single(cy, 2)) == [((2, 6, (ann, bob)), (1, 8)), ((2, 6, (ann, cy)), (3, 8)), ((2, 6, (cy, ann)), (1, 2))]
True
'''

OPTIMAL = '''
>>> from samphire.dice import Tape
>>> from samphire.optimal import Optimal, item_chances, threshold
>>> threshold([(1, 1), (2, 1), (6, 1)], 2), threshold([(1, 1), (2, 1), (6, 1)], 1), threshold([(1, 1)], 1)
((3, 1), (9, 1), (0, 1))
>>> things = [("a", "x", 1, 5), ("b", "x", 2, 7), ("c", "y", 6, -1)]
>>> item_chances(things, 2)
[(1, 3), (2, 3), (1, 1)]
>>> first = Optimal.single(things[0], 2).merge(Optimal.single(things[2], 2), Tape([]))
>>> [second.parts for second in [first.merge(Optimal.single(things[1], 2), Tape([at])) for at in (0, 1, 2)]][:2]
[[(('b', 'x', 2, 7), (3, 1)), (('c', 'y', 6, -1), (6, 1))], [(('b', 'x', 2, 7), (3, 1)), (('c', 'y', 6, -1), (6, 1))]]
>>> first.merge(Optimal.single(things[1], 2), Tape([2])).view()
(2, ((('a', 'x', 1, 5), (3, 1)), (('c', 'y', 6, -1), (6, 1))))
'''

ESTIMATES = '''
>>> from samphire.estimates import estimate, known_optimal, known_uniform, ordered, true_sum, unordered
>>> from samphire.uniform import Uniform
>>> from samphire.weighted import Weighted
>>> amounts = {"a": 5, "b": 7, "c": -1, "other": 9}
>>> true_sum(things, amounts), estimate(Uniform(2, 3, things[:2]), amounts)
(11, ((18, 1), (3, 1)))
>>> sample = Weighted(2, 9, [things[2], things[1]])
>>> ordered(sample, amounts), estimate(sample, amounts), unordered(sample, amounts)
([(-3, 2), (19, 2)], ((4, 1), (121, 4)), (42, 5))
>>> estimate(Optimal(2, [(things[0], (3, 1)), (things[2], (6, 1))]), amounts)
((14, 1), (150, 1))
>>> known_uniform(things, 2, amounts), known_optimal(things, 2, amounts)
((26, 1), (149, 2))
'''

SHIFTING = '''
>>> from samphire.parcels import Node, counted
>>> from samphire.shifting import arrived, greatest, least
>>> from samphire.strategies import law_of_merging, merge_all, reach
>>> from samphire.uniform import Uniform
>>> items = [("k" + str(n), "g", 1, n) for n in range(3)]
>>> parcels = [(("p" + str(n),), Uniform.single(items[n], 1)) for n in range(3)]
>>> rows = law_of_merging(parcels, {})
>>> [chance for view, chance in rows]
[(1, 3), (1, 3), (1, 3)]
>>> views = [view for view, chance in rows]
>>> reach(parcels, {views[0]: 3, views[2]: 9})[:2]
((4, 1), (4, 1))
>>> left = Node("left", parcels[:2])
>>> right = Node("right", parcels[2:])
>>> letter = left.send(0, "right")
>>> letter[:3], left.out(), right.take(letter), right.take(letter), counted([left, right])
(('left', 1, 'right'), [1], True, False, [('p0', 'held', 'right'), ('p1', 'held', 'left'), ('p2', 'held', 'right')])
>>> coin = [((0, 1), (1, 2)), ((1, 1), (1, 2))]
>>> greatest(coin, 1), least(coin, 2)[0], arrived(coin, 1, [(1, (0, 1))])
(((3, 4), [(1, (0, 1))]), (1, 8), [((0, 1), (1, 4)), ((1, 1), (3, 4))])
'''

COUPLINGS = '''
>>> from samphire.couplings import couple, distance, equal_pairs, is_coupling, shared, shows_most
>>> from samphire.flows import cut_bound, greatest_flow, is_flow
>>> size, flow, cut = greatest_flow([2, 3], [4, 2], [(0, 0), (1, 0)])
>>> size, sum(flow), cut, is_flow([2, 3], [4, 2], [(0, 0), (1, 0)], [1, 4])
(4, 4, [0, 1], False)
>>> cut_bound([2, 3], [4, 2], [(0, 0), (1, 0)], [0, 1]), cut_bound([2, 3], [4, 2], [(0, 0), (1, 0)], [])
(4, 5)
>>> first = [(1, (1, 2)), (2, (1, 2))]
>>> second = [(1, (1, 3)), (2, (1, 3)), (3, (1, 3))]
>>> mass, rows, outcomes = couple(first, second, [(1, 1), (2, 2), (2, 3)])
>>> mass, outcomes, is_coupling(first, second, rows), shared(rows, [(1, 1), (2, 2), (2, 3)])
((5, 6), [1], True, (5, 6))
>>> shows_most(first, second, [(1, 1), (2, 2), (2, 3)], [1, 2]), distance(first, second), equal_pairs(first, second)
((1, 1), (1, 3), [(1, 1), (2, 2)])
'''

PRICES = '''
>>> from samphire.prices import best_chances, best_price, price_bound, spread
>>> best_price([5, 1, 2], 2), best_chances([5, 1, 2], 2)
((3, 1), [(1, 1), (1, 3), (2, 3)])
>>> spread([5, 1, 2], best_chances([5, 1, 2], 2)), price_bound([5, 1, 2], 2, (3, 1)), price_bound([5, 1, 2], 2, (1, 1))
((4, 1), (4, 1), (1, 1))
'''

STRATA = '''
>>> from samphire.strata import deal, deal_bound
>>> deal([(12, 1), (3, 1)], [5, 5], 4), deal_bound([(12, 1), (3, 1)], [5, 5], 4, (2, 1)), deal_bound([(12, 1), (3, 1)], [5, 5], 4, (1, 1))
(([3, 1], (2, 1)), (7, 1), (13, 2))
'''

STORE = '''
>>> from samphire.conditions import parse_condition
>>> from samphire.dice import Tape
>>> from samphire.store import Plan, Store, differences
>>> plan = Plan({"red": ("uniform", 2)}, ("weighted", 1))
>>> store = Store(plan, ["east"])
>>> for item in [("k1", "red", 3, -5), ("k2", "red", 10, 7), ("k3", "blue", 4, 1)]:
...     store.put(item, Tape([]))
>>> plan.places(), store.exact()
(['red', None], [('red', 'number', 2), (None, 'weight', 4)])
>>> store.answer(parse_condition("amount > 0"), "number"), store.answer(parse_condition("all"), "amount")
(((2, 1), (0, 1)), ((3, 1), (0, 1)))
>>> other = Store(plan, ["west"])
>>> other.put(("k4", "red", 1, 1), Tape([]))
>>> both = store.merged(other, Tape([]))
>>> both.parts, both.exact(), differences(store, both)
(['east', 'west'], [('red', 'number', 3), (None, 'weight', 4)], ['red'])
'''

DESK = '''
>>> from samphire.desk import Desk, answers_of
>>> desk = Desk()
>>> [desk.obey(line) for line in ["node east", "rule red uniform 2", "others weighted 1", "node east", "put east k1 red 3 -5", "put east k2 red 10 7"]]
[['refused plan'], ['rules 1'], ['plan 2'], ['nodes 1'], ['kept 1'], ['kept 2']]
>>> desk.obey("ask east number amount > 0"), desk.obey("exact east"), desk.obey("ask east weight and")
(['estimate 1', 'variance 0'], ['exact red number 2', 'exact others weight 0'], ['refused text 1 expected'])
>>> desk.obey("node west"), desk.obey("put west k4 red 1 1"), desk.obey("merge east west"), desk.obey("nodes"), desk.obey("exact east")[0]
(['nodes 2'], ['kept 1'], ['kept 2'], ['east east west'], 'exact red number 3')
>>> desk.obey("undo"), desk.obey("differ east west"), answers_of(["price 2 5 1 2", "tape", "seed -1"])
(['undone merge east west'], ['differ red'], [['price 3', 'spread 4', 'bound 4'], ['refused count'], ['refused number']])
'''


class ExamplesTest(unittest.TestCase):
    def check(self, *texts):
        """Run the texts one behind the other, with the names of the earlier ones."""
        names = {}
        runner = doctest.DocTestRunner(verbose=False)
        told = []
        for text in texts:
            test = doctest.DocTestParser().get_doctest(text, names, "example", None, 0)
            self.assertTrue(test.examples)
            runner.run(test, out=told.append, clear_globs=False)
            names = test.globs
        self.assertEqual("".join(told), "")

    def test_readme(self):
        self.check(README.read_text("utf-8").replace("```", ""))

    def test_conditions(self):
        self.check(CONDITIONS)

    def test_laws(self):
        self.check(LAWS)

    def test_uniform_and_weighted(self):
        self.check(UNIFORM, WEIGHTED)

    def test_optimal_and_estimates(self):
        self.check(OPTIMAL, ESTIMATES)

    def test_parcels_strategies_nodes_and_shifting(self):
        self.check(SHIFTING)

    def test_flows_and_couplings(self):
        self.check(COUPLINGS)

    def test_prices_and_strata(self):
        self.check(PRICES, STRATA)

    def test_store(self):
        self.check(STORE)

    def test_desk(self):
        self.check(DESK)


if __name__ == "__main__":
    unittest.main()
