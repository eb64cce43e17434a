"""Promise 5: names, items, lists of items and their fault."""

import unittest

from samphire.reader import read_items
from samphire.things import check_items, is_item, is_name

GOOD = ("k1", "red", 3, -5)


class NameTest(unittest.TestCase):
    def test_names(self):
        for text in ("a", "z", "0", "9", "k1", "007", "and", "abcdefghijkl", "123456789012"):
            with self.subTest(text):
                self.assertIs(is_name(text), True)

    def test_lengths(self):
        self.assertIs(is_name(""), False)
        self.assertIs(is_name("a" * 12), True)
        self.assertIs(is_name("a" * 13), False)

    def test_other_signs(self):
        for text in ("A", "aB", "a b", " a", "a ", "a-b", "-1", "a_b", "a.b", "a\n", "\n", "a\tb", "(", "`", "{", "/", ":"):
            with self.subTest(text):
                self.assertIs(is_name(text), False)

    def test_letters_and_digits_of_other_scripts(self):
        for text in ("\u00e9", "a\u00df", "\u0661", "\u00b2", "\u03b1", "\uff11"):
            with self.subTest(text):
                self.assertIs(is_name(text), False)


class ItemTest(unittest.TestCase):
    def test_ordinary_items(self):
        for row in (GOOD, ("and", "or", 500, 0), ("a" * 12, "9" * 12, 10, 7)):
            with self.subTest(row):
                self.assertIs(is_item(row), True)

    def test_key_and_group(self):
        for name in ("", "a" * 13, "A", "a b"):
            with self.subTest(name):
                self.assertIs(is_item((name, "g", 1, 0)), False)
                self.assertIs(is_item(("k", name, 1, 0)), False)

    def test_weights(self):
        for weight, right in ((-1, False), (0, False), (1, True), (1000, True), (1001, False)):
            with self.subTest(weight):
                self.assertIs(is_item(("k", "g", weight, 0)), right)

    def test_amounts(self):
        for amount, right in ((-1001, False), (-1000, True), (0, True), (1000, True), (1001, False)):
            with self.subTest(amount):
                self.assertIs(is_item(("k", "g", 1, amount)), right)


class CheckItemsTest(unittest.TestCase):
    def test_lists_of_items(self):
        self.assertIsNone(check_items([]))
        self.assertIsNone(check_items([GOOD]))
        self.assertIsNone(check_items([GOOD, ("red", "k1", 3, -5), ("k2", "red", 3, -5)]))

    def test_each_reason(self):
        bad = {
            "key": ("K", "red", 3, -5),
            "group": ("k2", "", 3, -5),
            "weight": ("k2", "red", 0, -5),
            "amount": ("k2", "red", 3, 1001),
            "taken": ("k1", "blue", 4, 6),
        }
        for reason, row in bad.items():
            with self.subTest(reason):
                self.assertEqual(check_items([GOOD, row]), (1, reason))
                self.assertEqual(check_items([GOOD, ("k3", "red", 1, 1), row, ("k4", "red", 1, 1)]), (2, reason))

    def test_place_0(self):
        self.assertEqual(check_items([("k", "g", 1001, 0), GOOD]), (0, "weight"))

    def test_the_first_reason_in_one_tuple(self):
        self.assertEqual(check_items([("", "", 0, 2000)]), (0, "key"))
        self.assertEqual(check_items([("k", "", 0, 2000)]), (0, "group"))
        self.assertEqual(check_items([("k", "g", 0, 2000)]), (0, "weight"))
        self.assertEqual(check_items([GOOD, ("k1", "G", 1, 0)]), (1, "group"))
        self.assertEqual(check_items([GOOD, ("k1", "g", 0, 0)]), (1, "weight"))
        self.assertEqual(check_items([GOOD, ("k1", "g", 1, -1001)]), (1, "amount"))

    def test_the_least_place_of_two(self):
        self.assertEqual(check_items([GOOD, ("k2", "g", 1, 1001), ("", "g", 1, 0)]), (1, "amount"))
        self.assertEqual(check_items([GOOD, GOOD, ("", "g", 1, 0)]), (1, "taken"))
        self.assertEqual(check_items([GOOD, ("k2", "g", 1, 0), ("k2", "g", 1, 0), GOOD]), (2, "taken"))

    def test_the_list_stays_as_it_is(self):
        rows = [GOOD, ("k2", "red", 1, 1), GOOD]
        check_items(rows)
        self.assertEqual(rows, [GOOD, ("k2", "red", 1, 1), GOOD])

    def test_the_example(self):
        rows = read_items("k1 red 3 -5\nk2 blue 10 7\n")
        self.assertEqual(rows, [("k1", "red", 3, -5), ("k2", "blue", 10, 7)])
        self.assertEqual(check_items(rows + [("k1", "red", 0, 1)]), (2, "weight"))


if __name__ == "__main__":
    unittest.main()
