"""Promises 71 and 73: the words of fractions, integers and places."""

import unittest

from samphire.report import fraction_word, integer_of, place_word


class FractionWordTest(unittest.TestCase):
    def test_fractions(self):
        for number, word in (((0, 1), "0"), ((7, 1), "7"), ((-3, 1), "-3"), ((1, 2), "1/2"), ((-10, 3), "-10/3"),
                             ((10 ** 30, 1), "1" + "0" * 30), ((1, 10 ** 30), "1/1" + "0" * 30)):
            self.assertEqual(fraction_word(number), word)

    def test_none(self):
        self.assertEqual(fraction_word(None), "-")


class IntegerOfTest(unittest.TestCase):
    def test_integers(self):
        for number in (0, 1, 9, 10, 305, -1, -10, 99999999, 100000000, 123456789, 999999999, -999999999, -100000000):
            self.assertEqual(integer_of(str(number)), number)

    def test_signs(self):
        for word in ("+1", "-0", "--1", "-", "+", "1-", "- 1", "-+1", "+0"):
            self.assertIsNone(integer_of(word))

    def test_zeros_in_front(self):
        for word in ("00", "01", "007", "-01", "-00", "0000000001", "000000001"):
            self.assertIsNone(integer_of(word))

    def test_the_empty_word_and_other_characters(self):
        for word in ("", " ", "a", "1a", "1.0", "1_0", "1 ", " 1", "\u0661", "\u00b2", "0x1", "1e3", "~"):
            self.assertIsNone(integer_of(word))

    def test_nine_digits_and_ten(self):
        self.assertEqual((integer_of("999999999"), integer_of("-999999999")), (999999999, -999999999))
        for word in ("1000000000", "-1000000000", "9999999999", "1234567890", "9" * 5000, "-" + "9" * 5000):
            self.assertIsNone(integer_of(word))


class PlaceWordTest(unittest.TestCase):
    def test_places(self):
        self.assertEqual((place_word(None), place_word("red"), place_word("others")), ("others", "red", "others"))


if __name__ == "__main__":
    unittest.main()
