"""Promises 9 and 10: the grammar of conditions, and the errors of parsing."""

import itertools
import unittest

from samphire.conditions import parse_condition
from samphire.errors import TextError, TooLarge

ALL = ("all",)
RED = ("group", "red")


def follow(tokens):
    """The number of the first token that cannot stand there, len(tokens) if something is due behind, or None.

    This goes through the tokens by what may come next, without the rules of the grammar.
    """
    due = "part"
    brackets = 0
    for number, token in enumerate(tokens):
        if due == "part" and token in ("not", "("):
            brackets += token == "("
        elif due == "part" and token in ("weight", "group", "all"):
            due = {"weight": "sign", "group": "name", "all": "more"}[token]
        elif due == "sign" and token in ("<", "<="):
            due = "number"
        elif due == "number" and token == "-":
            due = "digits"
        elif (due == "number" and token in ("0", "7")) or (due == "digits" and token == "7"):
            due = "more"
        elif due == "name" and token[0] not in "(<-)":
            due = "more"
        elif due == "more" and token in ("and", "or"):
            due = "part"
        elif due == "more" and token == ")" and brackets:
            brackets -= 1
        else:
            return number
    return None if due == "more" and not brackets else len(tokens)


class ParsedTest(unittest.TestCase):
    def parsed(self, text, condition):
        with self.subTest(text):
            self.assertEqual(parse_condition(text), condition)

    def test_atoms(self):
        self.parsed("all", ALL)
        self.parsed("group red", RED)
        self.parsed("key k1", ("key", "k1"))
        for word in ("weight", "amount"):
            for sign in ("<", "<=", "=", ">=", ">"):
                self.parsed(f"{word} {sign} 12", (word, sign, 12))

    def test_grouping_to_the_left(self):
        self.parsed("all or group red or key k", ("or", ("or", ALL, RED), ("key", "k")))
        self.parsed("all and group red and key k", ("and", ("and", ALL, RED), ("key", "k")))
        self.parsed("all or (group red or key k)", ("or", ALL, ("or", RED, ("key", "k"))))

    def test_how_tight_the_operators_are(self):
        self.parsed("all or group red and key k", ("or", ALL, ("and", RED, ("key", "k"))))
        self.parsed("all and group red or key k", ("or", ("and", ALL, RED), ("key", "k")))
        self.parsed("not all and group red", ("and", ("not", ALL), RED))
        self.parsed("not all or group red", ("or", ("not", ALL), RED))
        self.parsed("all and not not all or all", ("or", ("and", ALL, ("not", ("not", ALL))), ALL))
        self.parsed("not (all or group red)", ("not", ("or", ALL, RED)))
        self.parsed("(all or group red) and all", ("and", ("or", ALL, RED), ALL))

    def test_spaces(self):
        self.parsed("  all  ", ALL)
        self.parsed("weight<5", ("weight", "<", 5))
        self.parsed("weight<=5 or(all)", ("or", ("weight", "<=", 5), ALL))
        self.parsed("weight  >=   -  5 ", ("weight", ">=", -5))
        self.parsed("amount<-5", ("amount", "<", -5))
        self.parsed("not(all)and(group   red)", ("and", ("not", ALL), RED))
        self.parsed("( ( all ) )", ALL)

    def test_brackets_that_are_not_needed(self):
        self.parsed("(all)", ALL)
        self.parsed("((group red))", RED)
        self.parsed("(all and all) and (all)", ("and", ("and", ALL, ALL), ALL))
        self.parsed("not (not (all))", ("not", ("not", ALL)))

    def test_names_that_are_words_of_the_grammar(self):
        for name in ("and", "or", "not", "all", "weight", "amount", "group", "key", "0", "01", "abcdefghijkl"):
            self.parsed("group " + name, ("group", name))
            self.parsed("key " + name + " and all", ("and", ("key", name), ALL))

    def test_numbers(self):
        self.parsed("weight = 0", ("weight", "=", 0))
        self.parsed("weight = 1000000", ("weight", "=", 1000000))
        self.parsed("amount = -1000000", ("amount", "=", -1000000))
        self.parsed("amount = - 1000000", ("amount", "=", -1000000))
        self.parsed("amount = -1", ("amount", "=", -1))


class RefusedTest(unittest.TestCase):
    def refused(self, text, column, reason):
        with self.subTest(text[:60]):
            with self.assertRaises(TextError) as caught:
                parse_condition(text)
            error = caught.exception
            self.assertEqual((error.line, error.column, error.reason), (1, column, reason))

    def test_character(self):
        for sign in "A!_+*/.,;:#&|[]{}'\"\\~^@$?`\t\n\r\x00\u00e9\u00b2\u0661\u00a0":
            self.refused("all or " + sign, 8, "character")
            self.refused(sign, 1, "character")
        self.refused("allX", 4, "character")
        self.refused("weight != 5", 8, "character")
        self.refused("all ! ?", 5, "character")

    def test_character_is_ahead_of_all_other_errors(self):
        self.refused("and and !", 9, "character")
        self.refused(") 01 !", 6, "character")
        self.refused("weight = 1000001 !", 18, "character")
        self.refused("(" * 30 + "X", 31, "character")
        self.refused("all\n", 4, "character")

    def test_expected_at_a_wrong_token(self):
        self.refused("and", 1, "expected")
        self.refused("red", 1, "expected")
        self.refused("  5", 3, "expected")
        self.refused("all all", 5, "expected")
        self.refused("all not all", 5, "expected")
        self.refused("all)", 4, "expected")
        self.refused("(all))", 6, "expected")
        self.refused("()", 2, "expected")
        self.refused("(all all)", 6, "expected")
        self.refused("all and or all", 9, "expected")
        self.refused("not and", 5, "expected")
        self.refused("weight 5", 8, "expected")
        self.refused("weight - 5", 8, "expected")
        self.refused("weight < = 5", 10, "expected")
        self.refused("weight =< 5", 9, "expected")
        self.refused("weight < <= 5", 10, "expected")
        self.refused("weight <== 5", 10, "expected")
        self.refused("weight < x", 10, "expected")
        self.refused("weight < 5 6", 12, "expected")
        self.refused("weight5 < 6", 1, "expected")
        self.refused("5 < weight", 1, "expected")
        self.refused("group = red", 7, "expected")
        self.refused("group (red)", 7, "expected")
        self.refused("group -", 7, "expected")
        self.refused("group red blue", 11, "expected")
        self.refused("group " + "a" * 13, 7, "expected")
        self.refused("allorall", 1, "expected")
        self.refused("weight<=5or all", 9, "expected")

    def test_expected_behind_the_last_character(self):
        self.refused("", 1, "expected")
        self.refused("   ", 4, "expected")
        self.refused("all and", 8, "expected")
        self.refused("all and  ", 10, "expected")
        self.refused("not", 4, "expected")
        self.refused("(all", 5, "expected")
        self.refused("(all ", 6, "expected")
        self.refused("(", 2, "expected")
        self.refused("weight", 7, "expected")
        self.refused("weight <", 9, "expected")
        self.refused("weight < -", 11, "expected")
        self.refused("weight < - ", 12, "expected")
        self.refused("group", 6, "expected")

    def test_numbers_written_otherwise(self):
        self.refused("weight < 01", 10, "expected")
        self.refused("weight < 00", 10, "expected")
        self.refused("weight < -0", 11, "expected")
        self.refused("weight < - 0", 12, "expected")
        self.refused("weight < -01", 11, "expected")
        self.refused("weight < --5", 11, "expected")
        self.refused("weight < 5x", 10, "expected")
        self.refused("weight < 01000001", 10, "expected")
        self.refused("weight < (5)", 10, "expected")

    def test_range(self):
        self.refused("weight < 1000001", 10, "range")
        self.refused("amount = -1000001", 11, "range")
        self.refused("amount = -  1000001", 13, "range")
        self.refused("all or amount>9999999 and", 15, "range")
        self.refused("amount = " + "9" * 1900, 10, "range")
        self.refused("amount = -" + "9" * 1900, 11, "range")

    def test_the_first_error_from_left_to_right(self):
        self.refused("weight < 1000001 all", 10, "range")
        self.refused("all all weight < 1000001", 5, "expected")
        self.refused("(weight < 1000001", 11, "range")
        self.refused("not " * 21 + "weight < 1000001", 81, "deep")
        self.refused("weight < 1000001 or " + "(" * 21, 10, "range")
        self.refused("all " + "(" * 21, 5, "expected")

    def test_deep(self):
        self.refused("(" * 21 + "all" + ")" * 21, 21, "deep")
        self.refused("(" * 21, 21, "deep")
        self.refused("not " * 21 + "all", 81, "deep")
        self.refused("not " * 20 + "(all)", 81, "deep")
        self.refused("(" * 20 + "not all", 21, "deep")
        self.refused("not(" * 10 + "all and not all", 49, "deep")
        self.refused("(" * 1000, 21, "deep")

    def test_not_deep(self):
        self.assertEqual(parse_condition("(" * 20 + "all" + ")" * 20), ALL)
        self.refused("(" * 20, 21, "expected")
        condition = ALL
        for _ in range(20):
            condition = ("not", condition)
        self.assertEqual(parse_condition("not " * 20 + "all"), condition)
        self.assertEqual(parse_condition("not " * 20 + "all and " + "not " * 20 + "all"), ("and", condition, condition))

    def test_what_is_closed_is_open_no_longer(self):
        row = "(" * 20 + "all" + ")" * 20
        self.assertEqual(parse_condition(row + " and " + row), ("and", ALL, ALL))
        text = row + " and " + "(" * 21
        self.refused(text, len(text), "deep")
        one_open = "((((all)))) and " + "(" + "not " * 19
        for atom in ("all", "group not", "weight < -3", "amount = 5", "key k"):
            text = one_open + atom + " and " + "not " * 19
            self.assertEqual(parse_condition(text + "all)")[0], "and")
            self.refused(text + "not all)", len(text) + 1, "deep")
            self.refused(text + "(all))", len(text) + 1, "deep")
        text = one_open
        self.refused(text + "(all))", len(text) + 1, "deep")
        text = "not " * 19 + "(all) and " + "not " * 20
        self.refused(text + "not all", len(text) + 1, "deep")

    def test_a_name_opens_nothing(self):
        self.assertEqual(parse_condition("not " * 20 + "group not and key not")[0], "and")

    def test_all_short_rows_of_tokens(self):
        words = ("all", "not", "and", "or", "group", "weight", "<", "<=", "-", "0", "7", "(", ")")
        for length in range(5):
            for tokens in itertools.product(words, repeat=length):
                self.agrees(tokens)

    def test_rows_of_tokens_behind_longer_beginnings(self):
        words = ("all", "not", "and", "weight", "<", "-", "0", "7", "(", ")")
        for beginning in ("( all", "not ( weight < 7 )", "( ( group and ) or", "weight < - 7 and (", "( not not all and"):
            for tokens in itertools.product(words, repeat=3):
                self.agrees(tuple(beginning.split()) + tokens)

    def agrees(self, tokens):
        text = " ".join(tokens)
        wrong = follow(tokens)
        try:
            parse_condition(text)
            found = None
        except TextError as error:
            found = (error.line, error.column, error.reason)
        if wrong is None:
            self.assertIsNone(found, text)
        else:
            column = len(" ".join(tokens[:wrong] + ("",))) + 1 if wrong < len(tokens) else len(text) + 1
            self.assertEqual(found, (1, column, "expected"), text)

    def test_the_greatest_length(self):
        self.assertEqual(parse_condition("all" + " " * 1997), ALL)
        self.refused("!" * 2000, 1, "character")
        for text in ("all" + " " * 1998, "!" * 2001, "(" * 2001, "a" * 5000):
            with self.assertRaises(TooLarge) as caught:
                parse_condition(text)
            self.assertEqual(caught.exception.limit, "text")


if __name__ == "__main__":
    unittest.main()
