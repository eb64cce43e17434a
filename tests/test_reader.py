"""Promises 6 and 7: lines, words, columns, integers, and the reading of items."""

import unittest

from samphire.errors import TextError, TooLarge
from samphire.reader import read_items

GOOD = "k1 red 3 -5\n"


def numbered(count):
    return "".join([f"k{number} g 1 0\n" for number in range(count)])


class ReadTest(unittest.TestCase):
    def refused(self, text):
        with self.assertRaises(TextError) as caught:
            read_items(text)
        error = caught.exception
        return (error.line, error.column, error.reason)

    def test_the_empty_text(self):
        self.assertEqual(read_items(""), [])

    def test_one_line_with_and_without_a_newline(self):
        self.assertEqual(read_items("k1 red 3 -5\n"), [("k1", "red", 3, -5)])
        self.assertEqual(read_items("k1 red 3 -5"), [("k1", "red", 3, -5)])

    def test_several_lines(self):
        rows = [("k1", "red", 3, -5), ("k2", "blue", 1000, 1000), ("and", "or", 1, -1000), ("9", "0", 1, 0)]
        text = "k1 red 3 -5\nk2 blue 1000 1000\nand or 1 -1000\n9 0 1 0"
        self.assertEqual(read_items(text), rows)
        self.assertEqual(read_items(text + "\n"), rows)

    def test_each_call_gives_a_new_list(self):
        read_items(GOOD).append(1)
        self.assertEqual(read_items(GOOD), [("k1", "red", 3, -5)])

    def test_count(self):
        for line in ("k", "k g", "k g 1", "k g 1 0 0", "k g 1 0 ", " k g 1 0", "k g  1 0", ""):
            with self.subTest(line):
                self.assertEqual(self.refused(line + "\n"), (1, 1, "count"))
                self.assertEqual(self.refused(GOOD + line + "\n"), (2, 1, "count"))

    def test_empty_lines(self):
        self.assertEqual(self.refused("\n"), (1, 1, "count"))
        self.assertEqual(self.refused(GOOD + "\n"), (2, 1, "count"))
        self.assertEqual(self.refused(GOOD + "\nk2 g 1 0\n"), (2, 1, "count"))

    def test_key(self):
        for word in ("K", "a" * 13, "a_b", "-1", "\u00e9"):
            with self.subTest(word):
                self.assertEqual(self.refused(GOOD + word + " g 1 0\n"), (2, 1, "key"))

    def test_group(self):
        self.assertEqual(self.refused(GOOD + "k22 G 1 0\n"), (2, 5, "group"))
        self.assertEqual(self.refused("k " + "a" * 13 + " 1 0\n"), (1, 3, "group"))

    def test_weight(self):
        for word in ("0", "1001", "-1", "x", "01", "+1", "-0", "1.5", "1_0", "\u0661", "9" * 5000, "-"):
            with self.subTest(word):
                self.assertEqual(self.refused(GOOD + "k22 gg " + word + " 0\n"), (2, 8, "weight"))

    def test_amount(self):
        for word in ("1001", "-1001", "x", "01", "-01", "+1", "-0", "--1", "00", "-", "1-", "\u00b2", "-" + "9" * 5000):
            with self.subTest(word):
                self.assertEqual(self.refused(GOOD + "k22 gg 10 " + word + "\n"), (2, 11, "amount"))

    def test_empty_words_between_two_spaces(self):
        self.assertEqual(self.refused(" g 1 0\n"), (1, 1, "key"))
        self.assertEqual(self.refused("k  1 0\n"), (1, 3, "group"))
        self.assertEqual(self.refused("k g  0\n"), (1, 5, "weight"))
        self.assertEqual(self.refused("k g 1 \n"), (1, 7, "amount"))
        self.assertEqual(self.refused("   "), (1, 1, "key"))

    def test_other_white_space_is_part_of_a_word(self):
        self.assertEqual(self.refused("k\tg 1 0\n"), (1, 1, "count"))
        self.assertEqual(self.refused("k g 1 0\r\n"), (1, 7, "amount"))
        self.assertEqual(self.refused("k g 1 \t0"), (1, 7, "amount"))
        self.assertEqual(self.refused("k g 1 0\x0bk2 g 1 0\n"), (1, 1, "count"))
        self.assertEqual(self.refused("k g 1 0\u2028"), (1, 7, "amount"))

    def test_taken(self):
        self.assertEqual(self.refused(GOOD + "k1 blue 1 0\n"), (2, 1, "taken"))
        self.assertEqual(self.refused(GOOD + "red k1 1 0\nk2 g 1 0\nk2 g 1 0\nk1 g 1 0\n"), (4, 1, "taken"))

    def test_the_first_reason_of_two_in_a_line(self):
        self.assertEqual(self.refused("K G 0\n"), (1, 1, "count"))
        self.assertEqual(self.refused("K G 0 x\n"), (1, 1, "key"))
        self.assertEqual(self.refused("k G 0 x\n"), (1, 3, "group"))
        self.assertEqual(self.refused("k g 0 x\n"), (1, 5, "weight"))
        self.assertEqual(self.refused(GOOD + "k1 g 1 x\n"), (2, 8, "amount"))

    def test_the_first_line_of_two(self):
        self.assertEqual(self.refused(GOOD + "k2 g 1 x\nK g 1 1\n"), (2, 8, "amount"))
        self.assertEqual(self.refused(GOOD + GOOD + "\n"), (2, 1, "taken"))

    def test_the_1000th_and_the_1001st_line(self):
        rows = read_items(numbered(1000))
        self.assertEqual((len(rows), rows[999]), (1000, ("k999", "g", 1, 0)))
        self.assertEqual(self.refused(numbered(1001)), (1001, 1, "many"))
        self.assertEqual(self.refused(numbered(1002)), (1001, 1, "many"))

    def test_many_comes_last(self):
        self.assertEqual(self.refused(numbered(1000) + "k0 g 1 0\n"), (1001, 1, "taken"))
        self.assertEqual(self.refused(numbered(1000) + "k0 g 1 x\n"), (1001, 8, "amount"))
        self.assertEqual(self.refused(numbered(1000) + "\n"), (1001, 1, "count"))
        self.assertEqual(self.refused("\n" * 100000), (1, 1, "count"))

    def test_the_greatest_length(self):
        self.assertEqual(self.refused("x" * 100000), (1, 1, "count"))
        for text in ("x" * 100001, GOOD + "\n" * 100000, " " * 200000):
            with self.assertRaises(TooLarge) as caught:
                read_items(text)
            self.assertEqual(caught.exception.limit, "text")


if __name__ == "__main__":
    unittest.main()
