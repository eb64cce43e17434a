"""Promise 4: every error of the program."""

import unittest

from samphire import errors
from samphire.errors import SamphireError, TextError

ONE_ARGUMENT = {
    "TooLarge": "limit",
    "InvalidSize": "size",
    "SharedKey": "key",
    "SharedPart": "part",
    "InvalidPlan": "reason",
    "UnknownWhat": "what",
    "WrongReceiver": "name",
    "UnknownLetter": "number",
    "NoParcel": "number",
    "InvalidLine": "line",
}
NO_ARGUMENT = ["WrongKind", "ZeroDenominator", "InvalidLaw", "NotEnded", "EmptyList", "OtherPlan", "NoDeal"]


class ErrorsTest(unittest.TestCase):
    def test_the_base_is_a_value_error(self):
        self.assertEqual(SamphireError.__bases__, (ValueError,))

    def test_each_class_is_directly_below_the_base(self):
        for name in ["TextError", *ONE_ARGUMENT, *NO_ARGUMENT]:
            with self.subTest(name):
                made = getattr(errors, name)
                self.assertEqual(made.__bases__, (SamphireError,))
                self.assertEqual((made.__name__, made.__module__), (name, "samphire.errors"))

    def test_there_are_no_other_classes(self):
        told = {"SamphireError", "TextError", *ONE_ARGUMENT, *NO_ARGUMENT}
        self.assertEqual({name for name in vars(errors) if not name.startswith("_")}, told)

    def test_one_argument_and_the_attribute_of_its_name(self):
        for name, attribute in ONE_ARGUMENT.items():
            for value in ("a word", 17):
                with self.subTest(name, value=value):
                    made = getattr(errors, name)
                    self.assertEqual(getattr(made(value), attribute), value)
                    self.assertEqual(getattr(made(**{attribute: value}), attribute), value)
                    self.assertRaises(TypeError, made)
                    self.assertRaises(TypeError, made, value, value)

    def test_no_arguments(self):
        for name in NO_ARGUMENT:
            with self.subTest(name):
                made = getattr(errors, name)
                self.assertIsInstance(made(), SamphireError)
                self.assertRaises(TypeError, made, 1)

    def test_text_error(self):
        error = TextError(3, 14, "weight")
        self.assertEqual((error.line, error.column, error.reason), (3, 14, "weight"))
        error = TextError(reason="key", column=2, line=1)
        self.assertEqual((error.line, error.column, error.reason), (1, 2, "key"))
        self.assertRaises(TypeError, TextError, 3, 14)

    def test_each_is_caught_as_the_base_and_as_a_value_error(self):
        for base in (SamphireError, ValueError):
            with self.assertRaises(base):
                raise errors.TooLarge("text")
            with self.assertRaises(base):
                raise errors.NoDeal()


if __name__ == "__main__":
    unittest.main()
