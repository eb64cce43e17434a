"""Promises 63 to 69: plans, stores, what is answered, what is known exactly, and where stores differ."""

import itertools
import unittest
from fractions import Fraction

from oracles import NoDice, Watched, chances_of, exact, pair_of

from samphire.conditions import held, parse_condition
from samphire.dice import Mixer, Tape
from samphire.errors import InvalidPlan, OtherPlan, SharedKey, SharedPart, UnknownWhat
from samphire.estimates import estimate
from samphire.optimal import Optimal
from samphire.store import Plan, Store, check_plan, differences, same_plan
from samphire.uniform import Uniform
from samphire.weighted import Weighted

KINDS = {"uniform": Uniform, "weighted": Weighted, "optimal": Optimal}
A, B, C, D, E = [("a", "red", 3, -5), ("b", "red", 10, 7), ("c", "blue", 4, 1), ("d", "red", 1, 2), ("e", "green", 6, 9)]
ALL = parse_condition("all")


def filled(plan, part, things, dice):
    store = Store(plan, [part])
    for item in things:
        store.put(item, dice)
    return store


def groups(many):
    return {f"g{number}": ("uniform", 1) for number in range(many)}


class CheckPlanTest(unittest.TestCase):
    GOOD = ("uniform", 2)

    def test_plans(self):
        self.assertIsNone(check_plan({}, self.GOOD))
        for kind in KINDS:
            for size in (1, 2, 19, 20):
                self.assertIsNone(check_plan({"red": (kind, size)}, self.GOOD))
                self.assertIsNone(check_plan({"red": self.GOOD}, (kind, size)))

    def test_many(self):
        self.assertIsNone(check_plan(groups(20), self.GOOD))
        self.assertEqual(check_plan(groups(21), self.GOOD), "many")

    def test_group(self):
        for group in ("", "Red", "a b", "a" * 13, "-", "r\u00e9d"):
            self.assertEqual(check_plan({group: self.GOOD}, self.GOOD), "group")
            self.assertEqual(check_plan({"red": self.GOOD, group: self.GOOD, "blue": self.GOOD}, self.GOOD), "group")
        for group in ("a" * 12, "0", "others", "uniform"):
            self.assertIsNone(check_plan({group: self.GOOD}, self.GOOD))

    def test_kind(self):
        for kind in ("", "Uniform", "plain", "optimal "):
            self.assertEqual(check_plan({}, (kind, 2)), "kind")
            self.assertEqual(check_plan({"red": self.GOOD, "blue": (kind, 2)}, self.GOOD), "kind")

    def test_size(self):
        for size in (-1, 0, 21, 1000):
            self.assertEqual(check_plan({}, ("weighted", size)), "size")
            self.assertEqual(check_plan({"red": self.GOOD, "blue": ("optimal", size)}, self.GOOD), "size")

    def test_the_order_of_the_reasons(self):
        no_kind, no_size = ("plain", 1), ("uniform", 0)
        self.assertEqual(check_plan({**groups(20), "No": no_kind}, no_size), "many")
        self.assertEqual(check_plan({"red": no_kind, "blue": no_size, "No": self.GOOD}, no_kind), "group")
        self.assertEqual(check_plan({"red": no_size, "blue": no_kind}, no_size), "kind")
        self.assertEqual(check_plan({"red": no_size}, no_kind), "kind")
        self.assertEqual(check_plan({}, ("plain", 0)), "kind")
        self.assertEqual(check_plan({"red": no_size}, self.GOOD), "size")


class PlanTest(unittest.TestCase):
    RULES = {"red": ("uniform", 2), "blue": ("optimal", 20), "9": ("weighted", 1)}

    def test_invalid_plans(self):
        for rules, others, reason in (
            (groups(21), ("uniform", 0), "many"),
            ({"Red": ("plain", 1)}, ("uniform", 0), "group"),
            ({"red": ("uniform", 0)}, ("plain", 1), "kind"),
            ({"red": ("uniform", 21)}, ("uniform", 1), "size"),
            ({}, ("uniform", 21), "size"),
        ):
            with self.assertRaises(InvalidPlan) as caught:
                Plan(rules, others)
            self.assertEqual(caught.exception.reason, reason)

    def test_places_and_rules(self):
        plan = Plan(self.RULES, ("weighted", 3))
        self.assertEqual(plan.places(), ["9", "blue", "red", None])
        self.assertEqual([plan.rule(place) for place in plan.places()],
                         [("weighted", 1), ("optimal", 20), ("uniform", 2), ("weighted", 3)])
        self.assertEqual([plan.place_of(group) for group in ("red", "blue", "9", "green", "others")],
                         ["red", "blue", "9", None, None])
        empty = Plan({}, ("uniform", 1))
        self.assertEqual((empty.places(), empty.place_of("red"), empty.rule(None)), ([None], None, ("uniform", 1)))

    def test_the_dict_that_was_handed_in(self):
        rules = dict(self.RULES)
        plan = Plan(rules, ("weighted", 3))
        rules["red"] = ("plain", 77)
        del rules["blue"]
        rules["more"] = ("uniform", 1)
        self.assertEqual((plan.places(), plan.rule("red")), (["9", "blue", "red", None], ("uniform", 2)))
        self.assertEqual((plan.place_of("blue"), plan.place_of("more")), ("blue", None))
        plan.places().clear()
        self.assertEqual(len(plan.places()), 4)

    def test_same_plan(self):
        others = ("weighted", 3)
        plan = Plan(self.RULES, others)
        self.assertIs(same_plan(plan, plan), True)
        self.assertIs(same_plan(plan, Plan(dict(reversed(self.RULES.items())), others)), True)
        for rules, pair in (
            ({**self.RULES, "more": ("uniform", 2)}, others),
            ({"red": ("uniform", 2)}, others),
            ({**self.RULES, "red": ("uniform", 3)}, others),
            ({**self.RULES, "red": ("weighted", 2)}, others),
            (self.RULES, ("weighted", 4)),
            (self.RULES, ("uniform", 3)),
            ({}, others),
        ):
            self.assertIs(same_plan(plan, Plan(rules, pair)), False)
            self.assertIs(same_plan(Plan(rules, pair), plan), False)
        self.assertIs(same_plan(Plan({"a": ("uniform", 1)}, others), Plan({"b": ("uniform", 1)}, others)), False)


class PutTest(unittest.TestCase):
    def test_an_empty_store(self):
        plan = Plan({"red": ("uniform", 2), "blue": ("optimal", 3)}, ("weighted", 4))
        parts = ["west", "east", "mid"]
        store = Store(plan, parts)
        self.assertIs(store.plan, plan)
        self.assertEqual((store.parts, parts), (["east", "mid", "west"], ["west", "east", "mid"]))
        parts.clear()
        self.assertEqual(store.view(), (("east", "mid", "west"), ((3, ()), (2, 0, ()), (4, 0, ()))))
        self.assertEqual([type(store.sample(place)) for place in plan.places()], [Optimal, Uniform, Weighted])
        self.assertEqual(Store(plan, []).parts, [])

    def test_each_kind(self):
        for kind, made in KINDS.items():
            for rules, others in (({"red": (kind, 2)}, ("uniform", 1)), ({}, (kind, 2))):
                plan = Plan(rules, others)
                place = plan.place_of("red")
                for seed in range(10):
                    store = Store(plan, ["east"])
                    sample = made.empty(2)
                    dice, same = Watched(Mixer(seed)), Watched(Mixer(seed))
                    for item in (A, B, D, ("e", "red", 6, 9)):
                        self.assertIsNone(store.put(item, dice))
                        sample = sample.merge(made.single(item, 2), same)
                        self.assertEqual(store.sample(place).view(), sample.view())
                    self.assertIs(type(store.sample(place)), made)
                    self.assertEqual(dice.rows, same.rows)

    def test_the_sample_is_merged_with_the_item_in_this_order(self):
        store = Store(Plan({}, ("weighted", 2)), ["east"])
        dice = Watched(Tape([0, 3, 0]))
        for item in (A, B):
            store.put(item, dice)
        # First the item a alone; then 3 of a against 10 of b.
        self.assertEqual(dice.rows, [[0, 3], [3, 10], [3, 0]])
        self.assertEqual(store.sample(None).kept, [B, A])

    def test_the_place_of_the_group(self):
        plan = Plan({"red": ("uniform", 3), "blue": ("uniform", 3)}, ("uniform", 3))
        store = filled(plan, "east", [C, A, E, B, ("f", "others", 1, 1)], Mixer(1))
        self.assertEqual(store.sample("red").kept, [A, B])
        self.assertEqual(store.sample("blue").kept, [C])
        self.assertEqual(store.sample(None).kept, [E, ("f", "others", 1, 1)])
        views = tuple(store.sample(place).view() for place in plan.places())
        self.assertEqual(store.view(), (("east",), views))

    def test_a_key_that_is_kept_in_the_place(self):
        for kind in KINDS:
            store = filled(Plan({"red": (kind, 2)}, (kind, 2)), "east", [A, C], Mixer(3))
            told = store.view()
            for key, group in (("a", "red"), ("c", "blue"), ("c", "green")):
                with self.assertRaises(SharedKey) as caught:
                    store.put((key, group, 9, 9), NoDice())
                self.assertEqual((caught.exception.key, store.view()), (key, told))

    def test_a_key_that_is_kept_elsewhere_or_no_longer(self):
        store = filled(Plan({"red": ("uniform", 1)}, ("uniform", 1)), "east", [A], Mixer(3))
        store.put(("a", "blue", 1, 1), Mixer(3))
        self.assertEqual(store.sample(None).kept, [("a", "blue", 1, 1)])
        store.put(B, Tape([1]))
        self.assertEqual(store.sample("red").kept, [B])
        store.put(A, Tape([0]))
        self.assertEqual(store.sample("red").view(), (1, 3, (B,)))

    def test_a_sample_that_was_handed_out(self):
        store = filled(Plan({}, ("uniform", 2)), "east", [A], Mixer(1))
        sample, view = store.sample(None), store.view()
        store.put(B, Mixer(1))
        self.assertEqual((sample.kept, view), ([A], (("east",), ((2, 1, (A,)),))))


class MergedTest(unittest.TestCase):
    PLAN = Plan({"red": ("weighted", 2), "blue": ("uniform", 1), "green": ("optimal", 1)}, ("uniform", 1))

    def stores(self):
        one = filled(self.PLAN, "east", [A, C, E, ("x", "pink", 1, 1)], Mixer(1))
        other = filled(self.PLAN, "west", [B, ("f", "blue", 2, 2), ("g", "green", 3, 3), ("y", "pink", 2, 2)], Mixer(2))
        return one, other

    def refused(self, error, one, other, **told):
        views = one.view(), other.view()
        with self.assertRaises(error) as caught:
            one.merged(other, NoDice())
        self.assertEqual(vars(caught.exception), told)
        self.assertEqual((one.view(), other.view()), views)

    def test_place_by_place_the_others_last(self):
        one, other = self.stores()
        for seed in range(30):
            dice, same = Watched(Mixer(seed)), Watched(Mixer(seed))
            views = [one.sample(place).merge(other.sample(place), same).view() for place in ("blue", "green", "red", None)]
            merged = one.merged(other, dice)
            self.assertEqual(merged.view(), (("east", "west"), tuple(views)))
            self.assertEqual(dice.rows, same.rows)

    def test_the_order_of_the_picks(self):
        one, other = self.stores()
        dice = Watched(Tape([]))
        one.merged(other, dice)
        # The two picks of the place blue, the one of green, those of red, and the two of the others.
        self.assertEqual(dice.rows, [[1, 1], [1], [1, 2], [3, 10], [0, 10], [1, 1], [1]])
        dice = Watched(Tape([]))
        other.merged(one, dice)
        self.assertEqual(dice.rows, [[1, 1], [1], [1, 2], [10, 3], [0, 3], [1, 1], [1]])

    def test_neither_store_changes(self):
        one, other = self.stores()
        views = one.view(), other.view()
        merged = one.merged(other, Mixer(5))
        told = merged.view()
        merged.put(("z", "red", 5, 5), Mixer(1))
        self.assertEqual((one.view(), other.view()), views)
        one.put(("z", "red", 5, 5), Mixer(1))
        other.put(("z", "blue", 5, 5), Mixer(1))
        self.assertNotEqual(merged.view(), told)
        self.assertEqual(one.merged(Store(self.PLAN, ["none"]), Mixer(1)).view()[0], ("east", "none"))
        self.assertEqual((one.parts, other.parts, merged.parts), (["east"], ["west"], ["east", "west"]))
        self.assertTrue(same_plan(merged.plan, self.PLAN))

    def test_parts_in_ascending_order(self):
        one, other = Store(self.PLAN, ["c", "a"]), Store(self.PLAN, ["d", "b"])
        for first, second in ((one, other), (other, one)):
            self.assertEqual(first.merged(second, NoDice()).parts, ["a", "b", "c", "d"])

    def test_equal_plans_that_are_two(self):
        plan = Plan({"green": ("optimal", 1), "blue": ("uniform", 1), "red": ("weighted", 2)}, ("uniform", 1))
        merged = filled(self.PLAN, "east", [C], Mixer(1)).merged(filled(plan, "west", [A], Mixer(1)), Mixer(1))
        self.assertEqual((merged.sample("blue").kept, merged.sample("red").kept), ([C], [A]))

    def test_other_plan(self):
        others = [Plan({}, ("uniform", 1)), Plan({"red": ("weighted", 2), "blue": ("uniform", 1),
                                                  "green": ("optimal", 1)}, ("uniform", 2))]
        for plan in others:
            one, other = filled(self.PLAN, "east", [C], Mixer(1)), filled(plan, "east", [C], Mixer(1))
            self.refused(OtherPlan, one, other)
            self.refused(OtherPlan, other, one)

    def test_shared_part(self):
        one, other = Store(self.PLAN, ["e", "c", "a", "d"]), Store(self.PLAN, ["d", "b", "c"])
        self.refused(SharedPart, one, other, part="c")
        self.refused(SharedPart, other, one, part="c")
        self.refused(SharedPart, one, one, part="a")
        one, other = filled(self.PLAN, "east", [A], Mixer(1)), filled(self.PLAN, "east", [A], Mixer(1))
        self.refused(SharedPart, one, other, part="east")

    def test_shared_key_of_the_first_place(self):
        plan = Plan({"red": ("weighted", 3), "blue": ("uniform", 3)}, ("uniform", 3))
        one = filled(plan, "east", [A, B, ("y", "blue", 1, 1), ("x", "blue", 1, 1), ("k", "pink", 1, 1)], Mixer(1))
        other = filled(plan, "west", [A, ("k", "pink", 1, 1)], Mixer(1))
        self.refused(SharedKey, one, other, key="a")
        other = filled(plan, "west", [A, ("k", "pink", 1, 1), ("y", "blue", 2, 1), ("x", "blue", 1, 1)], Mixer(1))
        self.refused(SharedKey, one, other, key="x")
        other = filled(plan, "west", [("d", "red", 1, 1), ("k", "pink", 1, 1)], Mixer(1))
        self.refused(SharedKey, one, other, key="k")
        other = filled(plan, "west", [("d", "red", 1, 1), ("b", "red", 1, 1), A], Mixer(1))
        self.refused(SharedKey, one, other, key="a")

    def test_a_key_in_two_places_is_not_shared(self):
        one = filled(self.PLAN, "east", [("a", "blue", 1, 1)], Mixer(1))
        other = filled(self.PLAN, "west", [("a", "red", 1, 1)], Mixer(1))
        self.assertEqual(one.merged(other, Mixer(1)).parts, ["east", "west"])


class DifferencesTest(unittest.TestCase):
    PLAN = Plan({"red": ("uniform", 2), "blue": ("weighted", 2)}, ("optimal", 2))

    def test_differences(self):
        one = filled(self.PLAN, "east", [A, C, E], Mixer(1))
        self.assertEqual(differences(one, one), [])
        self.assertEqual(differences(one, filled(self.PLAN, "west", [A, C, E], Mixer(1))), [])
        empty = Store(self.PLAN, ["west"])
        for first, second in ((one, empty), (empty, one)):
            self.assertEqual(differences(first, second), ["blue", "red", None])
        for things, told in (([A, C], [None]), ([E, A], ["blue"]), ([C], ["red", None]), ([A, C, ("e", "g", 6, 8)], [None])):
            other = filled(self.PLAN, "east", things, Mixer(1))
            self.assertEqual((differences(one, other), differences(other, one)), (told, told))

    def test_equal_kept_items_with_another_number_seen(self):
        plan = Plan({}, ("uniform", 1))
        one, other = filled(plan, "east", [A], Mixer(1)), filled(plan, "east", [A, B], Tape([0, 0, 0, 0]))
        self.assertEqual((one.sample(None).kept, other.sample(None).kept), ([A], [A]))
        self.assertEqual(differences(one, other), [None])

    def test_other_plan(self):
        one, other = Store(self.PLAN, ["east"]), Store(Plan({}, ("optimal", 2)), ["east"])
        for first, second in ((one, other), (other, one)):
            self.assertRaises(OtherPlan, differences, first, second)


class AnswerTest(unittest.TestCase):
    PLAN = Plan({"red": ("uniform", 2), "blue": ("weighted", 2), "green": ("optimal", 2)}, ("uniform", 1))

    def test_whole_stores(self):
        store = filled(self.PLAN, "east", [A, B, C, E], Mixer(1))
        for condition, told in (
            ("all", (4, 23, 12)), ("amount > 0", (3, 20, 17)), ("group red", (2, 13, 2)), ("key c", (1, 4, 1)),
            ("weight > 3 and not group blue", (2, 16, 16)), ("group none", (0, 0, 0)),
        ):
            for what, number in zip(("number", "weight", "amount"), told):
                self.assertEqual(store.answer(parse_condition(condition), what), ((number, 1), (0, 1)))

    def test_an_empty_store(self):
        for what in ("number", "weight", "amount"):
            self.assertEqual(Store(self.PLAN, ["east"]).answer(ALL, what), ((0, 1), (0, 1)))

    def test_a_certain_store(self):
        plan = Plan({"red": ("uniform", 2)}, ("weighted", 2))
        store = filled(plan, "east", [A, B, D, C, E, ("f", "pink", 2, 3)], Tape([]))
        self.assertEqual(store.sample("red").view(), (2, 3, (A, B)))
        self.assertEqual(store.sample(None).view(), (2, 12, (C, E)))
        # red: 3/2 times the sum, and 3/2 times the squares; the others: 12/4 and 1 + 8/6 of the number, and so on.
        self.assertEqual(store.answer(ALL, "number"), (pair_of(Fraction(3) + Fraction(8, 3)), pair_of(Fraction(1, 9))))
        self.assertEqual(store.answer(parse_condition("amount < 0 or key e"), "amount"),
                         (pair_of(Fraction(-15, 2) + Fraction(6)), pair_of(Fraction(75, 4) + 36)))

    def test_the_sum_over_all_places(self):
        things = [A, B, D, C, E, ("f", "blue", 7, 3), ("g", "blue", 2, -4), ("h", "green", 1, 5), ("i", "green", 2, 8)]
        for seed in range(10):
            store = filled(self.PLAN, "east", things, Mixer(seed))
            for text in ("all", "weight <= 6", "not group red", "amount < 0 or key b"):
                for what, part in (("number", None), ("weight", 2), ("amount", 3)):
                    found, varied = Fraction(0), Fraction(0)
                    for place in self.PLAN.places():
                        sample = store.sample(place)
                        kept = [item for item in sample.kept if held(parse_condition(text), item)]
                        one, two = estimate(sample, {item[0]: item[part] if part else 1 for item in kept})
                        found, varied = found + exact(one), varied + exact(two)
                    told = (pair_of(found), pair_of(varied))
                    self.assertEqual(store.answer(parse_condition(text), what), told)

    def test_no_variance(self):
        store = filled(self.PLAN, "east", [A, B, D, ("x", "pink", 2, 3), ("y", "pink", 2, 3)], Mixer(1))
        self.assertEqual(store.answer(ALL, "number"), ((5, 1), None))
        self.assertEqual(store.answer(parse_condition("group pink"), "weight"), ((4, 1), None))
        # None is told even if the condition holds for nothing of that place.
        self.assertIsNone(store.answer(parse_condition("group red"), "amount")[1])

    def test_equal_keys_in_two_places(self):
        store = filled(self.PLAN, "east", [("k", "red", 5, 1), ("k", "blue", 7, 2)], Mixer(1))
        self.assertEqual(store.answer(parse_condition("group red"), "weight"), ((5, 1), (0, 1)))
        self.assertEqual(store.answer(ALL, "amount"), ((3, 1), (0, 1)))

    def test_unknown_what(self):
        store = filled(self.PLAN, "east", [A], Mixer(1))
        for what in ("", "numbers", "Number", "key", "group", "variance"):
            with self.assertRaises(UnknownWhat) as caught:
                store.answer(ALL, what)
            self.assertEqual(caught.exception.what, what)

    def test_nothing_changes(self):
        store = filled(self.PLAN, "east", [A, B, C], Mixer(1))
        told = store.view()
        store.answer(ALL, "number")
        store.exact().clear()
        self.assertEqual((store.view(), len(store.exact())), (told, 4))


class ExactTest(unittest.TestCase):
    PLAN = Plan({"red": ("uniform", 1), "blue": ("weighted", 1), "green": ("optimal", 1)}, ("optimal", 2))

    def test_an_empty_store(self):
        told = [("blue", "weight", 0), ("green", "weight", 0), ("red", "number", 0), (None, "weight", 0)]
        self.assertEqual(Store(self.PLAN, ["east"]).exact(), told)

    def test_what_is_put_in(self):
        things = [(f"k{number}", ("red", "blue", "green", "pink")[number % 4], number + 1, 0) for number in range(20)]
        for seed in range(10):
            store = filled(self.PLAN, "east", things, Mixer(seed))
            told = [("blue", "weight", 50), ("green", "weight", 55), ("red", "number", 5), (None, "weight", 60)]
            self.assertEqual(store.exact(), told)
            other = filled(self.PLAN, "west", [("x", "red", 9, 0), ("y", "green", 9, 0)], Mixer(seed))
            told = [("blue", "weight", 50), ("green", "weight", 64), ("red", "number", 6), (None, "weight", 60)]
            self.assertEqual(store.merged(other, Mixer(seed)).exact(), told)
            for _, _, number in store.exact():
                self.assertIs(type(number), int)


class FactsTest(unittest.TestCase):
    THINGS = [A, C, B, ("f", "blue", 7, 3), D]

    def in_a_row(self, plan, things, dice):
        return filled(plan, "east", things, dice)

    def in_halves(self, plan, things, dice):
        one, other = filled(plan, "east", things[:2], dice), filled(plan, "west", things[2:], dice)
        return other.merged(one, dice)

    def by_what_was_drawn(self, plan, things, dice):
        stores = [filled(plan, f"p{place}", [item], dice) for place, item in enumerate(things)]
        while len(stores) > 1:
            stores.sort(key=lambda store: (A in store.sample("red").kept, store.parts))
            stores.append(stores.pop().merged(stores.pop(0), dice))
        return stores[0]

    def laws(self, plan):
        """The chances of the views of the samples, for several ways to come to a store of all items."""
        found = []
        for way in (self.in_a_row, self.in_halves, self.by_what_was_drawn):
            for things in (self.THINGS, self.THINGS[::-1]):
                found.append((plan, chances_of(lambda dice: way(plan, things, dice).view()[1])))
        return found

    def plans(self):
        for first, second in itertools.product(("uniform", "weighted"), repeat=2):
            yield Plan({"red": (first, 2)}, (second, 1))

    def test_the_law_depends_on_the_items_alone(self):
        for plan in self.plans():
            told = self.laws(plan)[0][1]
            for _, found in self.laws(plan):
                self.assertEqual(found, told)

    def test_the_samples_of_different_places_are_independent(self):
        for plan in self.plans():
            for _, found in self.laws(plan):
                sides = ({}, {})
                for views, chance in found.items():
                    for side, view in zip(sides, views):
                        side[view] = side.get(view, 0) + chance
                for (one, chance), (other, share) in itertools.product(*[side.items() for side in sides]):
                    self.assertEqual(found[(one, other)], chance * share)

    def test_the_mean_of_the_answer_is_the_true_answer(self):
        questions = [(parse_condition(text), what) for text in ("all", "amount > 0 and not key b", "weight < 4")
                     for what in ("number", "weight", "amount")]
        for plan in (*self.plans(), Plan({"red": ("optimal", 2)}, ("weighted", 1)), Plan({"red": ("optimal", 1)}, ("uniform", 1))):
            for condition, what in questions:
                true = {"number": 0, "weight": 0, "amount": 0}
                for item in self.THINGS:
                    if held(condition, item):
                        true = {"number": true["number"] + 1, "weight": true["weight"] + item[2],
                                "amount": true["amount"] + item[3]}
                for way in (self.in_a_row, self.in_halves):
                    draws = chances_of(lambda dice: way(plan, self.THINGS, dice).answer(condition, what)[0])
                    mean = sum(exact(found) * chance for found, chance in draws.items())
                    self.assertEqual(mean, true[what])


if __name__ == "__main__":
    unittest.main()
