"""The interface of the document: each name, where it is defined, and what it is passed."""

import importlib
import inspect
import pathlib
import unittest

PACKAGE = pathlib.Path(__file__).resolve().parent.parent / "samphire"

FUNCTIONS = """
things: is_name(text) is_item(row) check_items(rows)
reader: read_items(text)
writer: write_items(rows)
conditions: parse_condition(text) write_condition(condition) held(condition, item) held_items(condition, rows)
ratios: is_fraction(pair) lowest(p, q) plus(a, b) minus(a, b) times(a, b) over(a, b) less(a, b) sum_of(fractions)
dice: number_at(weights, place)
laws: is_law(rows) law_from(rows) chance_of(rows, outcome) mean(rows) variance(rows) covariance(rows)
laws: mixed(laws, chances) joined(first, second) carried(rows, table) same_law(first, second) difference(first, second)
uniform: uniform_law(things, size) uniform_merge(first, second) item_chance(number, size) pair_chance(number, size)
weighted: weighted_law(things, size) order_chance(total, kept) set_chance(total, kept) weighted_merge(first, second)
optimal: threshold(weights, size) item_chances(things, size)
estimates: is_whole(sample) amount_of(amounts, item) true_sum(things, amounts) estimate(sample, amounts)
estimates: ordered(sample, amounts) unordered(sample, amounts)
estimates: known_uniform(things, size, amounts) known_optimal(things, size, amounts)
strategies: check_parcels(parcels) situation(parcels) choice(parcels, strategy) merge_all(parcels, strategy, dice)
strategies: law_of_merging(parcels, strategy) reach(parcels, worth)
parcels: merged(first, second, dice) counted(nodes)
shifting: arrived(rows, retries, lost) mean_by(rows, retries, lost) greatest(rows, retries) least(rows, retries)
shifting: ceilings(rows, retries) floors(rows, retries) accepts_ceilings(rows, bounds) accepts_floors(rows, bounds)
flows: greatest_flow(supplies, demands, arcs) is_flow(supplies, demands, arcs, flow)
flows: cut_bound(supplies, demands, arcs, cut)
couplings: is_coupling(first, second, rows) shared(rows, pairs) couple(first, second, pairs)
couplings: shows_most(first, second, pairs, outcomes) equal_pairs(first, second) distance(first, second)
couplings: differs_most(first, second)
prices: spread(weights, chances) price_bound(weights, size, price) best_price(weights, size) best_chances(weights, size)
strata: is_deal(limits, places, numbers) variance_of(costs, deal) deal(costs, limits, places)
strata: deal_bound(costs, limits, places, price)
store: check_plan(rules, others) same_plan(plan, other) differences(store, other)
report: fraction_word(number) integer_of(word) place_word(place)
desk: answers_of(lines)
"""

CLASSES = """
dice Tape(numbers): pick(weights) used()
dice Mixer(seed): pick(weights)
explore Explorer(): begin() pick(weights) end(outcome) runs() gathered()
uniform Uniform(size, seen, kept): merge(other, dice) view()
weighted Weighted(size, total, kept): merge(other, dice) view()
optimal Optimal(size, parts): merge(other, dice) adjusted_sum() view()
parcels Node(name, parcels): held() out() merge(i, j, dice) send(i, receiver) again(number) take(letter) confirm(number)
parcels Node(name, parcels): has_taken(sender, number)
store Plan(rules, others): place_of(group) places() rule(place)
store Store(plan, parts): put(item, dice) sample(place) merged(other, dice) answer(condition, what) exact() view()
desk Desk(): obey(line) journal()
"""

CLASS_METHODS = """
uniform Uniform: empty(size) single(item, size)
weighted Weighted: empty(size) single(item, size)
optimal Optimal: empty(size) single(item, size)
"""


def rows_of(text):
    """The pairs (head, list of the pairs (name, parameters)) of the lines of a text."""
    found = []
    for line in text.strip().split("\n"):
        head, told = line.split(": ")
        calls = [call.split("(") for call in told.rstrip(")").split(") ")]
        found.append((head, [(name, [word for word in words.split(", ") if word]) for name, words in calls]))
    return found


def parameters(function):
    return list(inspect.signature(function).parameters)


class InterfaceTest(unittest.TestCase):
    def module(self, name):
        return importlib.import_module("samphire." + name)

    def test_functions(self):
        for module, calls in rows_of(FUNCTIONS):
            for name, words in calls:
                with self.subTest(module, function=name):
                    found = vars(self.module(module))[name]
                    self.assertTrue(inspect.isfunction(found))
                    self.assertEqual((found.__module__, found.__name__), ("samphire." + module, name))
                    self.assertEqual(parameters(found), words)

    def test_classes(self):
        for head, calls in rows_of(CLASSES):
            module, told = head.split(" ", 1)
            name, words = told.rstrip(")").split("(")
            with self.subTest(module, made=name):
                made = vars(self.module(module))[name]
                self.assertEqual((made.__module__, made.__name__), ("samphire." + module, name))
                self.assertEqual(parameters(made), [word for word in words.split(", ") if word])
                for method, more in calls:
                    self.assertEqual(parameters(vars(made)[method]), ["self", *more])

    def test_class_methods(self):
        for head, calls in rows_of(CLASS_METHODS):
            module, name = head.split(" ")
            made = vars(self.module(module))[name]
            for method, words in calls:
                with self.subTest(name, method=method):
                    self.assertIsInstance(vars(made)[method], classmethod)
                    self.assertEqual(parameters(getattr(made, method)), words)

    def test_every_module_of_the_interface_is_there(self):
        told = {head.split(" ")[0] for head, _ in rows_of(FUNCTIONS) + rows_of(CLASSES)} | {"errors"}
        self.assertEqual(len(told), 23)
        self.assertEqual(told - {path.stem for path in PACKAGE.glob("*.py")}, set())


if __name__ == "__main__":
    unittest.main()
