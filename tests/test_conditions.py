"""Promises 8 and 11: conditions, when they hold, and their written form."""

import unittest

from samphire.conditions import held, held_items, parse_condition, write_condition
from samphire.reader import read_items

ALL = ("all",)
RED = ("group", "red")
KEY = ("key", "or")
LOW = ("amount", "<", -2)
NONE = ("not", ALL)
ITEM = ("k1", "red", 3, -5)


def grown(atoms, before):
    """The atoms and all conditions that are made of one or two of those before."""
    made = list(atoms)
    made.extend([("not", c) for c in before])
    made.extend([(word, c, d) for word in ("and", "or") for c in before for d in before])
    return made


def bracket_pairs(text):
    """The places of all brackets of a text, in pairs."""
    found = []
    opened = []
    for place, sign in enumerate(text):
        if sign == "(":
            opened.append(place)
        if sign == ")":
            found.append((opened.pop(), place))
    return found


class HeldTest(unittest.TestCase):
    def test_all(self):
        self.assertIs(held(ALL, ITEM), True)

    def test_group_and_key(self):
        self.assertIs(held(("group", "red"), ITEM), True)
        self.assertIs(held(("group", "k1"), ITEM), False)
        self.assertIs(held(("group", "re"), ITEM), False)
        self.assertIs(held(("key", "k1"), ITEM), True)
        self.assertIs(held(("key", "red"), ITEM), False)
        self.assertIs(held(("key", "k11"), ITEM), False)

    def test_each_sign_below_at_and_above_the_number(self):
        right = {
            "<": [True, False, False],
            "<=": [True, True, False],
            "=": [False, True, False],
            ">=": [False, True, True],
            ">": [False, False, True],
        }
        for sign, answers in right.items():
            for number in (-1000, -1, 0, 1, 999):
                with self.subTest(sign, number=number):
                    amounts = [("k", "g", 17, number + step) for step in (-1, 0, 1)]
                    self.assertEqual([held(("amount", sign, number), item) for item in amounts], answers)
            weights = [("k", "g", 10 + step, -17) for step in (-1, 0, 1)]
            self.assertEqual([held(("weight", sign, 10), item) for item in weights], answers)

    def test_numbers_that_no_item_has(self):
        self.assertIs(held(("weight", "<", 1000000), ITEM), True)
        self.assertIs(held(("amount", ">=", -1000000), ITEM), True)
        self.assertIs(held(("amount", ">", 1000000), ITEM), False)

    def test_not_and_or(self):
        for first, one in ((ALL, True), (NONE, False)):
            self.assertIs(held(("not", first), ITEM), not one)
            for second, other in ((ALL, True), (NONE, False)):
                with self.subTest(first=one, second=other):
                    self.assertIs(held(("and", first, second), ITEM), one and other)
                    self.assertIs(held(("or", first, second), ITEM), one or other)

    def test_conditions_within_conditions(self):
        heavy = ("weight", ">", 5)
        rule = ("or", heavy, ("not", ("and", RED, LOW)))
        rows = [("a", "red", 3, -5), ("b", "red", 3, -2), ("c", "blue", 3, -5), ("d", "red", 6, -5)]
        self.assertEqual([held(rule, item) for item in rows], [False, True, True, True])
        rule = ("and", ("or", RED, heavy), ("not", ("or", LOW, ("key", "b"))))
        rows = [("a", "red", 3, -2), ("b", "red", 3, -2), ("c", "blue", 6, 0), ("d", "blue", 5, 0), ("e", "red", 9, -3)]
        self.assertEqual([held(rule, item) for item in rows], [True, False, True, False, False])

    def test_deeply_nested_conditions(self):
        turned = ALL
        left = RED
        right = KEY
        for _ in range(5000):
            turned = ("not", turned)
            left = ("and", left, ALL)
            right = ("or", NONE, right)
        self.assertEqual([held(c, ITEM) for c in (turned, ("not", turned), left, right)], [True, False, True, False])
        self.assertEqual(write_condition(turned), "not " * 5000 + "all")
        self.assertEqual(write_condition(left), "group red" + " and all" * 5000)
        self.assertEqual(write_condition(right), "not all or (" * 4999 + "not all or key or" + ")" * 4999)

    def test_held_items(self):
        rows = [("b", "red", 3, -5), ("a", "blue", 3, -5), ("c", "red", 1, 0)]
        self.assertEqual(held_items(RED, rows), [rows[0], rows[2]])
        self.assertEqual(held_items(("not", RED), rows), [rows[1]])
        self.assertEqual(held_items(NONE, rows), [])
        self.assertEqual(held_items(RED, []), [])

    def test_the_list_stays_as_it_is(self):
        rows = [("b", "red", 3, -5), ("a", "blue", 3, -5)]
        found = held_items(ALL, rows)
        found.append(1)
        held_items(RED, rows)
        self.assertEqual(rows, [("b", "red", 3, -5), ("a", "blue", 3, -5)])


class WriteConditionTest(unittest.TestCase):
    def written(self, condition, text):
        with self.subTest(text):
            self.assertEqual(write_condition(condition), text)
            self.assertEqual(parse_condition(text), condition)

    def test_atoms(self):
        self.written(ALL, "all")
        self.written(RED, "group red")
        self.written(KEY, "key or")
        for sign in ("<", "<=", "=", ">=", ">"):
            self.written(("weight", sign, 5), "weight " + sign + " 5")
            self.written(("amount", sign, -5), "amount " + sign + " -5")
        self.written(("amount", "=", 0), "amount = 0")
        self.written(("amount", "=", -1000000), "amount = -1000000")

    def test_no_brackets(self):
        self.written(("not", RED), "not group red")
        self.written(("not", ("not", RED)), "not not group red")
        self.written(("and", RED, KEY), "group red and key or")
        self.written(("and", ("and", ALL, RED), KEY), "all and group red and key or")
        self.written(("or", ("or", ALL, RED), KEY), "all or group red or key or")
        self.written(("or", ("and", ALL, RED), ("and", KEY, ALL)), "all and group red or key or and all")
        self.written(("and", ("not", ALL), ("not", RED)), "not all and not group red")
        self.written(("or", ("not", ALL), ("not", RED)), "not all or not group red")

    def test_an_or_within_and_and_not(self):
        self.written(("and", ("or", ALL, RED), KEY), "(all or group red) and key or")
        self.written(("and", KEY, ("or", ALL, RED)), "key or and (all or group red)")
        self.written(("not", ("or", ALL, RED)), "not (all or group red)")

    def test_an_and_within_not(self):
        self.written(("not", ("and", ALL, LOW)), "not (all and amount < -2)")

    def test_the_second_part_of_the_same_kind(self):
        self.written(("and", ALL, ("and", RED, KEY)), "all and (group red and key or)")
        self.written(("or", ALL, ("or", RED, KEY)), "all or (group red or key or)")

    def test_brackets_within_brackets(self):
        rule = ("not", ("and", ("not", ("or", ALL, RED)), ("and", ALL, ("or", ALL, ALL))))
        self.written(rule, "not (not (all or group red) and (all and (all or all)))")

    def test_names_that_are_words_of_the_grammar(self):
        for name in ("and", "or", "not", "all", "group", "key", "weight", "5"):
            self.written(("or", ("group", name), ("key", name)), f"group {name} or key {name}")

    def test_the_written_form_is_read_as_the_same_condition(self):
        once = grown([ALL, KEY], [ALL, KEY])
        twice = grown([ALL, LOW], once)
        for condition in once + twice:
            self.assertEqual(parse_condition(write_condition(condition)), condition)

    def test_no_brackets_can_be_left_out(self):
        for condition in grown([ALL], grown([ALL], grown([ALL], [ALL])[:5])):
            text = write_condition(condition)
            for first, second in bracket_pairs(text):
                shorter = text[:first] + text[first + 1:second] + text[second + 1:]
                self.assertNotEqual(parse_condition(shorter), condition)

    def test_twenty_brackets_deep(self):
        condition = ALL
        for _ in range(10):
            condition = ("not", ("and", ALL, condition))
        self.assertEqual(parse_condition(write_condition(condition)), condition)

    def test_the_longest_row_of_parts(self):
        condition = ALL
        for _ in range(285):
            condition = ("or", condition, ALL)
        text = write_condition(condition)
        self.assertEqual(len(text), 1998)
        self.assertEqual(parse_condition(text), condition)


class ExamplesTest(unittest.TestCase):
    def test_the_examples(self):
        rows = read_items("k1 red 3 -5\nk2 blue 10 7\n")
        condition = parse_condition("weight>5 or not (group red and amount < -2)")
        self.assertEqual(condition, ("or", ("weight", ">", 5), ("not", ("and", RED, LOW))))
        self.assertEqual(write_condition(condition), "weight > 5 or not (group red and amount < -2)")
        self.assertEqual([held(condition, item) for item in rows], [False, True])
        written = write_condition(("and", ("or", ("all",), ("key", "or")), ("and", ("all",), ("all",))))
        self.assertEqual(written, "(all or key or) and (all and all)")


if __name__ == "__main__":
    unittest.main()
