"""Promise 7: the written text of items."""

import unittest

from samphire.reader import read_items
from samphire.writer import write_items


class WriteItemsTest(unittest.TestCase):
    def test_the_empty_list(self):
        self.assertEqual(write_items([]), "")

    def test_one_item(self):
        self.assertEqual(write_items([("k1", "red", 3, -5)]), "k1 red 3 -5\n")

    def test_several_items(self):
        rows = [("k2", "blue", 1000, 1000), ("k1", "red", 1, -1000), ("and", "or", 10, 0)]
        self.assertEqual(write_items(rows), "k2 blue 1000 1000\nk1 red 1 -1000\nand or 10 0\n")

    def test_what_is_written_is_read_as_the_same(self):
        rows = [("k" + str(n), "g" + str(n % 7), n % 1000 + 1, 1000 - 2 * n) for n in range(1000)]
        for count in (0, 1, 2, 1000):
            with self.subTest(count):
                self.assertEqual(read_items(write_items(rows[:count])), rows[:count])

    def test_the_list_stays_as_it_is(self):
        rows = [("k2", "g", 1, 1), ("k1", "g", 1, 1)]
        write_items(rows)
        self.assertEqual(rows, [("k2", "g", 1, 1), ("k1", "g", 1, 1)])


if __name__ == "__main__":
    unittest.main()
