"""Promises 70 to 74: desks, their lines, refusals and journals."""

import unittest
from unittest import mock

from samphire.conditions import parse_condition
from samphire.desk import Desk, answers_of
from samphire.dice import Mixer, Tape
from samphire.errors import InvalidLine
from samphire.prices import best_chances, best_price, price_bound, spread
from samphire.report import fraction_word, place_word
from samphire.store import Plan, Store

SETUP = [
    "rule red uniform 2", "rule blue weighted 2", "others optimal 1", "seed 7", "node east", "node west",
    "put east k1 red 3 -5", "put east k2 red 10 7", "put west k3 blue 4 1", "put west k4 pink 6 0",
]
ASKED = [
    "ask east number all", "ask west weight amount > 0 or group pink", "ask east amount not key k1", "exact east",
    "exact west", "kept east", "kept west", "kept mid", "differ east west", "nodes", "price 2 5 1 2", "ask none number all",
]
# Lines that would go on from any state, so that what cannot be seen by asking is seen: drafts and dice.
PROBES = [
    "rule probe uniform 1", "put east p1 red 5 5", "put east p2 red 6 6", "put west p3 blue 7 7", "put west p4 pink 8 8",
    "merge east west", "kept east", "exact east", "others uniform 1",
]


def desk_of(lines):
    desk = Desk()
    for line in lines:
        desk.obey(line)
    return desk


def seen(desk):
    """All that a desk answers to the questions, its journal, and what it would answer behind it."""
    answers = [desk.obey(line) for line in ASKED]
    again = desk_of(desk.journal())
    return answers, desk.journal(), [again.obey(line) for line in ASKED]


class Case(unittest.TestCase):
    def setUp(self):
        self.desk = desk_of(SETUP)

    def refused(self, line, reason, desk=None):
        desk = desk or self.desk
        before = seen(desk)
        with self.subTest(line):
            self.assertEqual(desk.obey(line), ["refused " + reason])
            self.assertEqual(seen(desk), before)


class LineTest(Case):
    def test_the_length(self):
        line = "ask east number all" + " " * 281
        self.assertEqual(len(line), 300)
        self.assertEqual(self.desk.obey(line), ["estimate 2", "variance 0"])
        self.assertEqual(self.desk.obey("x" * 300), ["refused word"])
        for line in (line + " ", "x" * 301, "undo".ljust(301), "~" * 5000):
            with self.assertRaises(InvalidLine) as caught:
                self.desk.obey(line)
            self.assertEqual(caught.exception.line, line)

    def test_other_characters(self):
        before = seen(self.desk)
        for sign in ("\n", "\t", "\r", "\x00", "\x1f", "\x7f", "\x80", "\u00e9", "\u2003", "\U0001f600"):
            for line in (sign, "nodes" + sign, sign + "nodes", "put east k9 red 1" + sign + "1"):
                with self.assertRaises(InvalidLine) as caught:
                    self.desk.obey(line)
                self.assertEqual(caught.exception.line, line)
        self.assertEqual(seen(self.desk), before)

    def test_all_characters_that_may_be(self):
        for number in range(32, 127):
            self.refused("x" + chr(number), "word")

    def test_word(self):
        for line in ("", " ", "x", "Rule red uniform 2", " nodes", "nodess", "node,", "journal", "obey nodes", "unseed"):
            self.refused(line, "word")

    def test_the_number_of_words(self):
        counts = {"rule": (4, 4), "others": (3, 3), "seed": (2, 2), "tape": (2, 150), "node": (2, 2), "put": (6, 6),
                  "merge": (3, 3), "undo": (1, 1), "ask": (4, 140), "exact": (2, 2), "kept": (2, 2), "differ": (3, 3),
                  "nodes": (1, 1), "price": (3, 62)}
        for word, (fewest, most) in counts.items():
            for many in range(1, 70):
                if not fewest <= many <= most:
                    self.refused(" ".join([word] + ["0"] * (many - 1)), "count")
            for many in (fewest, min(most, 70)):
                line = " ".join([word] + ["0"] * (many - 1))
                self.assertNotEqual(desk_of(SETUP).obey(line), ["refused count"])

    def test_words_are_counted_by_single_spaces(self):
        for line in ("rule green uniform 2 ", "rule  green uniform 2", "nodes ", "node mid ", "node  mid", "undo ",
                     "put east k9 red 1 1 ", "put east  k9 red 1 1", "merge east west ", "exact east ", "seed 5 ",
                     "others  uniform 1", "kept  east", "differ east west ", "rule green uniform", "put east k9 red 1",
                     "exact", "seed", "tape", "price 2", "ask east number"):
            self.refused(line, "count")

    def test_an_empty_word(self):
        self.refused("rule  uniform 2", "group")
        self.refused("rule green uniform ", "size")
        self.refused("node ", "name")
        self.refused("seed ", "number")
        self.refused("tape ", "number")
        self.refused("tape 1 ", "number")
        self.refused("exact ", "node")
        self.refused("put east  red 1 1", "key")
        self.refused("put east k9 red 1 ", "amount")
        self.refused("ask east  all", "what")
        self.refused("ask east number ", "text 1 expected")
        self.refused("price 2 5 ", "number")


class RuleTest(Case):
    def test_answers(self):
        desk = Desk()
        self.assertEqual([desk.obey(f"rule g{number} optimal {number + 1}") for number in range(20)],
                         [[f"rules {number + 1}"] for number in range(20)])
        self.assertEqual(desk.obey("others uniform 20"), ["plan 21"])
        self.assertEqual(desk.obey("rule g1 uniform 1"), ["rules 1"])

    def test_each_reason(self):
        self.desk.obey("rule green uniform 2")
        for group in ("Green", "gr_een", "a" * 13, "-"):
            self.refused(f"rule {group} uniform 2", "group")
        self.refused("rule green uniform 2", "taken")
        for kind in ("Uniform", "plain", "0"):
            self.refused(f"rule pink {kind} 2", "kind")
        for size in ("0", "21", "-1", "x", "02", "+2", "2.0", "1000000000", "-"):
            self.refused(f"rule pink uniform {size}", "size")
        self.assertEqual(self.desk.obey("rule red uniform 2"), ["rules 2"])

    def test_the_order_of_the_reasons(self):
        desk = desk_of(["rule green uniform 2"])
        self.refused("rule Green plain 0", "group", desk)
        self.refused("rule green plain 0", "taken", desk)
        self.refused("rule pink plain 0", "kind", desk)
        self.refused("rule pink plain x", "kind", desk)
        for number in range(19):
            desk.obey(f"rule g{number} optimal 2")
        self.refused("rule Pink uniform 2", "group", desk)
        self.refused("rule g0 uniform 2", "taken", desk)
        self.refused("rule pink plain x", "many", desk)
        self.refused("rule pink uniform 2", "many", desk)

    def test_refused_rules_are_not_in_the_draft(self):
        desk = desk_of(["rule pink plain 2", "rule green uniform 0"])
        self.assertEqual(desk.obey("others uniform 1"), ["plan 1"])


class OthersTest(Case):
    def test_answers(self):
        self.assertEqual(answers_of(["others weighted 1", "rule a uniform 1", "others weighted 20", "nodes"]),
                         [["plan 1"], ["rules 1"], ["plan 2"], []])

    def test_each_reason(self):
        self.desk.obey("rule green uniform 2")
        for line, reason in (("others plain 1", "kind"), ("others uniform 0", "size"), ("others uniform 21", "size"),
                             ("others uniform x", "size"), ("others plain x", "kind"), ("others optimal 01", "size")):
            self.refused(line, reason)
        self.assertEqual(self.desk.obey("others uniform 20"), ["plan 2"])

    def test_a_new_plan(self):
        self.assertEqual(self.desk.obey("others uniform 1"), ["plan 1"])
        self.assertEqual(self.desk.obey("nodes"), [])
        self.assertEqual(self.desk.obey("node east"), ["nodes 1"])
        self.assertEqual(self.desk.obey("exact east"), ["exact others number 0"])
        self.assertEqual(self.desk.obey("rule red uniform 2"), ["rules 1"])

    def test_the_dice_stay(self):
        lines = ["others uniform 1", "tape 0 1", "others weighted 1", "node east", "put east a g 1 0", "put east b g 1 0"]
        self.assertEqual(desk_of(lines).obey("kept east"), ["others b g 1 0"])
        lines = ["others weighted 1", "node east", "put east a g 1 0", "put east b g 1 0"]
        self.assertEqual(desk_of(lines).obey("kept east"), ["others a g 1 0"])


class DiceTest(Case):
    LINES = [f"put east a{number} red {number + 1} 0" for number in range(12)]

    def test_answers_and_draws(self):
        for line, dice in (("seed 0", Mixer(0)), ("seed 999999999", Mixer(999999999)), ("seed 12", Mixer(12)),
                           ("tape 0", Tape([0])), ("tape 5 0 7 1 999999999 3 3 2 1", Tape([5, 0, 7, 1, 999999999, 3, 3, 2, 1]))):
            desk = desk_of(["others weighted 3", "node east"])
            self.assertEqual(desk.obey(line), ["dice"])
            store = Store(Plan({}, ("weighted", 3)), ["east"])
            for number, put in enumerate(self.LINES):
                desk.obey(put)
                store.put((f"a{number}", "red", number + 1, 0), dice)
            told = [f"others {key} {group} {weight} {amount}" for key, group, weight, amount in store.sample(None).kept]
            self.assertEqual(desk.obey("kept east"), told)

    def test_at_first_a_tape_without_numbers(self):
        setup = ["others weighted 3", "node east"]
        told = desk_of(setup + ["tape 0"] + self.LINES).obey("kept east")
        self.assertEqual(desk_of(setup + self.LINES).obey("kept east"), told)

    def test_as_many_numbers_as_a_line_has(self):
        line = "tape" + " 1" * 148
        self.assertEqual((len(line), Desk().obey(line)), (300, ["dice"]))

    def test_number(self):
        for word in ("-1", "x", "01", "+1", "1000000000", "1.5", "-", "-0", "-999999999"):
            self.refused("seed " + word, "number")
            self.refused("tape " + word, "number")
            self.refused(f"tape 1 {word} 2", "number")
            self.refused("tape 1 2 " + word, "number")

    def test_without_a_plan(self):
        self.assertEqual(answers_of(["seed 5", "tape 1 2 3"]), [["dice"], ["dice"]])


class NodeTest(Case):
    def test_answers(self):
        self.assertEqual(self.desk.obey("node mid"), ["nodes 3"])
        self.assertEqual(self.desk.obey("node " + "a" * 12), ["nodes 4"])
        self.assertEqual(self.desk.obey("exact mid"), ["exact blue weight 0", "exact red number 0", "exact others weight 0"])
        self.assertEqual(self.desk.obey("kept mid"), [])

    def test_each_reason_in_order(self):
        self.refused("node mid", "plan", Desk())
        self.refused("node Mid", "plan", Desk())
        for name in ("Mid", "a" * 13, "m-d"):
            self.refused("node " + name, "name")
        self.refused("node east", "taken")

    def test_the_parts_of_stores_are_taken(self):
        self.assertEqual(self.desk.obey("merge east west"), ["kept 4"])
        self.refused("node west", "taken")
        self.refused("node east", "taken")
        self.assertEqual(self.desk.obey("node mid"), ["nodes 2"])
        self.desk.obey("merge mid east")
        for name in ("east", "west", "mid"):
            self.refused("node " + name, "taken")
        self.assertEqual(self.desk.obey("nodes"), ["mid east mid west"])


class PutTest(Case):
    def test_answers(self):
        self.assertEqual(answers_of(SETUP)[6:], [["kept 1"], ["kept 2"], ["kept 1"], ["kept 2"]])
        self.assertEqual(self.desk.obey("put east k5 red 1 1"), ["kept 2"])
        self.assertEqual(self.desk.obey("put east k6 pink 1000 1000"), ["kept 3"])
        self.assertEqual(self.desk.obey("put east k7 green 1 -1000"), ["kept 3"])
        self.assertEqual(self.desk.obey("exact east"), ["exact blue weight 0", "exact red number 3", "exact others weight 1001"])

    def test_each_reason(self):
        for key in ("K", "a" * 13, "k_", "-"):
            self.refused(f"put east {key} red 1 1", "key")
        for group in ("Red", "a" * 13, "r-d"):
            self.refused(f"put east k9 {group} 1 1", "group")
        for weight in ("0", "1001", "-1", "x", "01", "+1", "1000000000"):
            self.refused(f"put east k9 red {weight} 1", "weight")
        for amount in ("1001", "-1001", "x", "01", "-0", "+1"):
            self.refused(f"put east k9 red 1 {amount}", "amount")
        self.refused("put east k1 red 1 1", "shared")
        self.refused("put west k4 green 1 1", "shared")
        self.refused("put none k9 red 1 1", "node")
        self.refused("put east k9 red 1 1", "plan", Desk())

    def test_the_order_of_the_reasons(self):
        self.refused("put none K Red 0 x", "plan", Desk())
        self.refused("put none K Red 0 x", "node")
        self.refused("put east K Red 0 x", "key")
        self.refused("put east k1 Red 0 x", "group")
        self.refused("put east k1 red 0 x", "weight")
        self.refused("put east k1 red 1 x", "amount")

    def test_a_key_that_is_kept_elsewhere(self):
        self.assertEqual(self.desk.obey("put west k1 red 1 1"), ["kept 3"])
        self.assertEqual(self.desk.obey("put east k1 blue 1 1"), ["kept 3"])

    def test_a_refused_line_makes_no_pick(self):
        lines = ["others uniform 1", "tape 0 0 1 0", "node east", "put east a g 1 0", "put east a g 1 0", "put east b g 1 0"]
        desk = desk_of(lines)
        self.assertEqual(answers_of(lines)[4], ["refused shared"])
        self.assertEqual(desk.obey("kept east"), ["others b g 1 0"])


class MergeTest(Case):
    def test_answers(self):
        self.assertEqual(self.desk.obey("merge west east"), ["kept 4"])
        self.assertEqual(self.desk.obey("nodes"), ["west east west"])
        self.assertEqual(self.desk.obey("exact west"), ["exact blue weight 4", "exact red number 2", "exact others weight 6"])
        self.assertEqual(self.desk.obey("exact east"), ["refused node"])

    def test_each_reason_in_order(self):
        self.refused("merge east west", "plan", Desk())
        self.refused("merge none none", "plan", Desk())
        for line in ("merge none none", "merge none east", "merge east none"):
            self.refused(line, "node")
        self.refused("merge east east", "same")
        self.desk.obey("put west k1 red 1 1")
        self.refused("merge east west", "shared")
        self.refused("merge west east", "shared")

    def test_the_first_ones_sample_comes_first(self):
        plan = Plan({"red": ("uniform", 2), "blue": ("weighted", 2)}, ("optimal", 1))
        for seed in range(10):
            for first, second in (("east", "west"), ("west", "east")):
                desk = desk_of(SETUP + ["put west k5 red 1 1", "put west k6 red 1 1", f"seed {seed}"])
                stores = {"east": Store(plan, ["east"]), "west": Store(plan, ["west"])}
                dice = Mixer(7)
                for line in SETUP[6:] + ["put west k5 red 1 1", "put west k6 red 1 1"]:
                    _, name, key, group, weight, amount = line.split(" ")
                    stores[name].put((key, group, int(weight), int(amount)), dice)
                told = stores[first].merged(stores[second], Mixer(seed))
                kept = [(place, item) for place in plan.places() for item in told.sample(place).kept]
                self.assertEqual(desk.obey(f"merge {first} {second}"), [f"kept {len(kept)}"])
                self.assertEqual(desk.obey(f"kept {first}"),
                                 [" ".join(map(str, [place_word(place), *item])) for place, item in kept])


class UndoTest(Case):
    def test_nothing(self):
        self.refused("undo", "nothing", Desk())
        self.refused("undo", "nothing", desk_of(["nodes", "price 1 1", "rule red plain 1"]))

    def test_down_to_the_empty_journal(self):
        lines = SETUP + ["rule green uniform 3", "put east k5 red 1 1", "tape 1 0 1", "put west k6 red 1 1",
                         "merge west east", "put west k7 red 1 1", "node south", "others uniform 2", "node east"]
        desk = desk_of(lines)
        self.assertEqual(desk.journal(), lines)
        for many in reversed(range(len(lines))):
            self.assertEqual(desk.obey("undo"), ["undone " + lines[many]])
            self.assertEqual(seen(desk), seen(desk_of(lines[:many])))
            other, same = desk_of(lines[:many]), desk_of(lines)
            for _ in range(len(lines) - many):
                same.obey("undo")
            self.assertEqual([same.obey(line) for line in PROBES], [other.obey(line) for line in PROBES])
        self.assertEqual((desk.journal(), desk.obey("undo")), ([], ["refused nothing"]))

    def test_the_dice_go_back(self):
        setup = ["others uniform 1", "tape 0 0 1 0 0 0", "node east", "put east a g 1 0"]
        for more in (["put east b g 1 0"], ["put east b g 1 0", "put east c g 1 0"], ["seed 3", "put east b g 1 0"]):
            desk = desk_of(setup + more + ["undo"] * len(more))
            desk.obey("put east d g 1 0")
            self.assertEqual(desk.obey("kept east"), ["others d g 1 0"])

    def test_the_draft_the_plan_and_the_nodes_come_back(self):
        self.desk.obey("rule green uniform 3")
        told = seen(self.desk)
        self.desk.obey("others uniform 1")
        self.desk.obey("undo")
        self.assertEqual(seen(self.desk), told)
        self.assertEqual(self.desk.obey("rule pink uniform 3"), ["rules 2"])

    def test_lines_that_are_in_no_journal(self):
        told = self.desk.journal()
        for line in ASKED + ["put none k9 red 1 1", "undo x"]:
            self.desk.obey(line)
        self.assertEqual((told, self.desk.journal()), (SETUP, SETUP))
        self.assertEqual(self.desk.obey("undo"), ["undone " + SETUP[-1]])
        self.assertEqual(self.desk.journal(), SETUP[:-1])
        self.desk.obey("put west k5 red 1 1")
        self.assertEqual(self.desk.journal(), SETUP[:-1] + ["put west k5 red 1 1"])

    def test_the_journal_that_was_handed_out(self):
        told = seen(self.desk)
        journal = self.desk.journal()
        journal.append("node mid")
        del journal[:3]
        self.assertEqual(seen(self.desk), told)
        self.assertEqual(self.desk.obey("undo"), ["undone " + SETUP[-1]])


class AskTest(Case):
    def test_answers(self):
        self.assertEqual(self.desk.obey("ask east number all"), ["estimate 2", "variance 0"])
        self.assertEqual(self.desk.obey("ask east amount all"), ["estimate 2", "variance 0"])
        self.assertEqual(self.desk.obey("ask east weight amount < 0"), ["estimate 3", "variance 0"])
        self.assertEqual(self.desk.obey("ask west weight  (group  blue)or key k4 "), ["estimate 10", "variance 0"])

    def test_fractions_and_no_variance(self):
        desk = desk_of(["rule red uniform 2", "others uniform 1", "node east", "put east a red 3 1", "put east b red 4 2",
                        "put east c red 5 4", "put east d pink 1 1"])
        self.assertEqual(desk.obey("kept east")[:2], ["red a red 3 1", "red b red 4 2"])
        self.assertEqual(desk.obey("ask east amount group red"), ["estimate 9/2", "variance 3/4"])
        self.assertEqual(desk.obey("ask east number key b"), ["estimate 3/2", "variance 3/4"])
        self.assertEqual(desk.obey("ask east amount key b or key d"), ["estimate 4", "variance 3"])
        desk.obey("put east e pink 1 1")
        self.assertEqual(desk.obey("ask east number group pink"), ["estimate 2", "variance -"])

    def test_as_the_store_answers(self):
        plan = Plan({"red": ("uniform", 2), "blue": ("weighted", 2)}, ("optimal", 1))
        store, dice = Store(plan, ["east"]), Mixer(5)
        desk = desk_of(SETUP[:3] + ["seed 5", "node east"])
        for number in range(15):
            item = (f"k{number}", ("red", "blue", "pink")[number % 3], number * 7 % 10 + 1, number - 6)
            desk.obey("put east " + " ".join(map(str, item)))
            store.put(item, dice)
            for what in ("number", "weight", "amount"):
                for text in ("all", "amount >= - 2 and weight > 3", "not (group red or key k5)"):
                    found, varied = store.answer(parse_condition(text), what)
                    told = [f"estimate {fraction_word(found)}", f"variance {fraction_word(varied)}"]
                    self.assertEqual(desk.obey(f"ask east {what} {text}"), told)

    def test_each_reason_in_order(self):
        self.refused("ask none numbers $", "plan", Desk())
        self.refused("ask none numbers $", "node")
        for what in ("numbers", "Number", "all", "kept"):
            self.refused(f"ask east {what} $", "what")
        self.refused("ask east number $", "text 1 character")
        self.refused("ask east number all $", "text 5 character")
        self.refused("ask east weight and", "text 1 expected")
        self.refused("ask east weight all all", "text 5 expected")
        self.refused("ask east weight (all", "text 5 expected")
        self.refused("ask east weight  ", "text 2 expected")
        self.refused("ask east weight amount > 1000001", "text 10 range")
        self.refused("ask east number " + "(" * 21 + "all" + ")" * 21, "text 21 deep")
        self.assertEqual(self.desk.obey("ask east number " + "(" * 20 + "all" + ")" * 20), ["estimate 2", "variance 0"])

    def test_a_condition_that_is_too_large(self):
        # A line is shorter than the longest condition, so the limit is lowered here.
        with mock.patch("samphire.conditions.MOST_CHARACTERS", 5):
            self.refused("ask east number all   ", "large")
            self.refused("ask east numbers all   ", "what")
            self.assertEqual(self.desk.obey("ask east number all  "), ["estimate 2", "variance 0"])


class OtherQuestionsTest(Case):
    def test_exact(self):
        self.assertEqual(self.desk.obey("exact east"), ["exact blue weight 0", "exact red number 2", "exact others weight 0"])
        self.assertEqual(self.desk.obey("exact west"), ["exact blue weight 4", "exact red number 0", "exact others weight 6"])

    def test_kept(self):
        self.assertEqual(self.desk.obey("kept east"), ["red k1 red 3 -5", "red k2 red 10 7"])
        self.assertEqual(self.desk.obey("kept west"), ["blue k3 blue 4 1", "others k4 pink 6 0"])
        desk = desk_of(["others weighted 2", "tape 0 1", "node east", "put east a g 2 0", "put east b g 2 0"])
        self.assertEqual(desk.obey("kept east"), ["others a g 2 0", "others b g 2 0"])
        desk = desk_of(["others weighted 2", "tape 0 3", "node east", "put east a g 2 0", "put east b g 2 0"])
        self.assertEqual(desk.obey("kept east"), ["others b g 2 0", "others a g 2 0"])

    def test_differ(self):
        self.assertEqual(self.desk.obey("differ east west"), ["differ blue red others"])
        self.assertEqual(self.desk.obey("differ east east"), ["differ"])
        self.desk.obey("node mid")
        self.assertEqual(self.desk.obey("differ mid east"), ["differ red"])
        self.assertEqual(self.desk.obey("differ west mid"), ["differ blue others"])

    def test_nodes(self):
        self.assertEqual(self.desk.obey("nodes"), ["east east", "west west"])
        for name in ("mid", "9", "a"):
            self.desk.obey("node " + name)
        self.assertEqual(self.desk.obey("nodes"), ["9 9", "a a", "east east", "mid mid", "west west"])
        self.desk.obey("merge mid a")
        self.desk.obey("merge 9 mid")
        self.assertEqual(self.desk.obey("nodes"), ["9 9 a mid", "east east", "west west"])
        self.assertEqual(desk_of(["others uniform 1"]).obey("nodes"), [])

    def test_reasons(self):
        for line in ("exact none", "kept none", "differ none none", "nodes"):
            self.refused(line, "plan", Desk())
        for line in ("exact none", "kept none", "differ none none", "differ east none", "differ none east", "exact East"):
            self.refused(line, "node")

    def test_price(self):
        for size, weights in ((2, [5, 1, 2]), (1, [5, 1, 2]), (20, [1000]), (3, [7, 7, 7, 7]), (1, [1]), (5, [3] * 60)):
            price = best_price(weights, size)
            told = [price, spread(weights, best_chances(weights, size)), price_bound(weights, size, price)]
            line = " ".join(map(str, ["price", size, *weights]))
            words = [f"{word} {fraction_word(number)}" for word, number in zip(("price", "spread", "bound"), told)]
            self.assertEqual((self.desk.obey(line), Desk().obey(line)), (words, words))
        self.assertEqual(Desk().obey("price 3 7 7 7 7"), ["price 28/3", "spread 196/3", "bound 196/3"])

    def test_price_refused(self):
        for size in ("0", "21", "-1", "x", "02", "1000000000"):
            self.refused(f"price {size} 5", "number")
        for weight in ("0", "1001", "-1", "x", "01", "1000000000"):
            self.refused(f"price 2 5 {weight} 1", "number")
        self.refused("price 2" + " 5" * 61, "count")
        self.assertNotEqual(self.desk.obey("price 2" + " 5" * 60), ["refused count"])

    def test_what_is_asked_changes_nothing(self):
        told = seen(self.desk)
        for line in ASKED:
            self.desk.obey(line).append("more")
        self.assertEqual(seen(self.desk), told)


class JournalTest(Case):
    LINES = SETUP + ["put east k1 red 1 1", "rule green weighted 3", "put east k5 red 9 9", "undo", "put east k6 red 8 8",
                     "nodes", "put west k7 blue 9 1", "put west k8 blue 1 1", "seed 99", "node mid", "undo", "merge east west",
                     "put east k9 pink 3 3"]

    def test_a_new_desk_that_is_given_the_journal(self):
        for many in range(len(self.LINES) + 1):
            desk = desk_of(self.LINES[:many])
            new = desk_of(desk.journal())
            self.assertEqual(new.journal(), desk.journal())
            self.assertEqual([new.obey(line) for line in ASKED + PROBES], [desk.obey(line) for line in ASKED + PROBES])
            self.assertEqual(new.journal(), desk.journal())

    def test_the_lines_that_were_obeyed(self):
        told = SETUP + ["rule green weighted 3", "put east k6 red 8 8", "put west k7 blue 9 1", "put west k8 blue 1 1", "seed 99",
                        "merge east west", "put east k9 pink 3 3"]
        self.assertEqual(desk_of(self.LINES).journal(), told)
        self.assertEqual(Desk().journal(), [])

    def test_lines_that_may_change_nothing_are_in_it(self):
        lines = ["others uniform 1", "others uniform 1", "tape 0", "tape 0"]
        self.assertEqual(desk_of(lines).journal(), lines)

    def test_two_desks(self):
        one, other = Desk(), Desk()
        one.obey("others uniform 1")
        self.assertEqual((other.obey("nodes"), other.journal()), (["refused plan"], []))


class AnswersOfTest(unittest.TestCase):
    def test_the_answers_of_a_new_desk(self):
        lines = JournalTest.LINES + ASKED
        desk = Desk()
        self.assertEqual(answers_of(lines), [desk.obey(line) for line in lines])
        self.assertEqual(answers_of(lines), answers_of(tuple(lines)))
        self.assertEqual(answers_of([]), [])

    def test_what_is_no_line(self):
        with self.assertRaises(InvalidLine) as caught:
            answers_of(["nodes", "no\tdes", "x" * 301])
        self.assertEqual(caught.exception.line, "no\tdes")

    def test_what_is_passed_stays(self):
        lines = list(SETUP)
        answers_of(lines).clear()
        self.assertEqual(lines, SETUP)


if __name__ == "__main__":
    unittest.main()
