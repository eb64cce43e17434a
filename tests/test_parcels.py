"""Promises 43, 47 and 48: two parcels that are merged, nodes, letters, and where parts count."""

import itertools
import unittest

from oracles import NoDice

from samphire.dice import Mixer, Tape
from samphire.errors import NoParcel, SharedKey, SharedPart, UnknownLetter, WrongKind, WrongReceiver
from samphire.optimal import Optimal
from samphire.parcels import Node, counted, merged
from samphire.uniform import Uniform
from samphire.weighted import Weighted

THINGS = [(f"k{number}", "g", number + 1, number) for number in range(8)]


def parcel(number, *more):
    """A parcel of one item, whose parts may be more."""
    return ((f"p{number}", *more), Weighted.single(THINGS[number], 2))


def seen(node):
    """All that can be seen of a node."""
    letters = [node.again(number) for number in node.out()]
    return node.name, list(node.held()), letters


class MergedTest(unittest.TestCase):
    def test_parts_and_sample(self):
        first, second = parcel(5, "p9"), parcel(1, "p7")
        parts, sample = merged(first, second, Tape([0]))
        self.assertEqual((parts, sample.view()), (("p1", "p5", "p7", "p9"), (2, 8, (THINGS[5], THINGS[1]))))
        parts, sample = merged(second, first, Tape([0]))
        self.assertEqual((parts, sample.view()), (("p1", "p5", "p7", "p9"), (2, 8, (THINGS[1], THINGS[5]))))
        self.assertEqual((first[1].kept, second[1].kept), ([THINGS[5]], [THINGS[1]]))

    def test_errors_and_their_order(self):
        item = THINGS[0]
        one = (("p0", "p3", "p5"), Uniform.single(item, 2))
        for other, error, value in (
            ((("p3", "p5"), Weighted.single(item, 3)), SharedPart, "p3"),
            ((("p1",), Weighted.single(item, 2)), WrongKind, None),
            ((("p1",), Optimal.single(item, 2)), WrongKind, None),
            ((("p1",), Uniform.single(item, 3)), WrongKind, None),
            ((("p1",), Uniform.single(item, 2)), SharedKey, "k0"),
        ):
            with self.assertRaises(error) as caught:
                merged(one, other, NoDice())
            if value is not None:
                self.assertIn(value, vars(caught.exception).values())


class NodeTest(unittest.TestCase):
    def setUp(self):
        self.node = Node("here", [parcel(0), parcel(1), parcel(2), parcel(3)])

    def refused(self, call, error, **told):
        before = seen(self.node)
        with self.assertRaises(error) as caught:
            call()
        self.assertEqual(vars(caught.exception), told)
        self.assertEqual(seen(self.node), before)

    def test_a_new_node(self):
        parcels = [parcel(0), parcel(1)]
        told = list(parcels)
        node = Node("left", parcels)
        parcels.clear()
        self.assertEqual(seen(node), ("left", told, []))
        node.held().clear()
        self.assertEqual(node.held(), told)
        self.assertEqual(seen(Node("none", [])), ("none", [], []))

    def test_merge(self):
        held = self.node.held()
        self.assertIsNone(self.node.merge(2, 0, Tape([0])))
        left = self.node.held()
        self.assertEqual(left[:2], [held[1], held[3]])
        parts, sample = left[2]
        self.assertEqual((len(left), parts, sample.view()), (3, ("p0", "p2"), (2, 4, (THINGS[2], THINGS[0]))))
        self.node.merge(0, 2, Tape([]))
        self.assertEqual([parts for parts, _ in self.node.held()], [("p3",), ("p0", "p1", "p2")])
        self.node.merge(1, 0, Mixer(1))
        self.assertEqual([parts for parts, _ in self.node.held()], [("p0", "p1", "p2", "p3")])

    def test_merge_with_numbers_that_there_are_not(self):
        for i, j, number in ((4, 0, 4), (0, 4, 4), (4, 5, 4), (-1, 0, -1), (0, -1, -1), (4, 4, 4), (-1, -1, -1),
                             (2, 2, 2), (0, 0, 0), (7, -1, 7), (1, 99, 99)):
            with self.subTest(i=i, j=j):
                self.refused(lambda: self.node.merge(i, j, NoDice()), NoParcel, number=number)
        self.node = Node("none", [])
        self.refused(lambda: self.node.merge(0, 0, NoDice()), NoParcel, number=0)

    def test_merge_of_parcels_that_cannot_be_merged(self):
        self.node.take(("there", 1, "here", (("q",), Uniform.single(("z", "g", 1, 1), 2))))
        self.refused(lambda: self.node.merge(0, 4, NoDice()), WrongKind)
        self.node.take(("there", 2, "here", (("r",), Weighted.single(THINGS[1], 2))))
        self.refused(lambda: self.node.merge(1, 5, NoDice()), SharedKey, key="k1")

    def test_send(self):
        held = self.node.held()
        letter = self.node.send(1, "there")
        self.assertEqual(letter, ("here", 1, "there", held[1]))
        self.assertEqual((self.node.held(), self.node.out()), ([held[0], held[2], held[3]], [1]))
        self.assertEqual(self.node.send(2, "other"), ("here", 2, "other", held[3]))
        self.assertEqual((self.node.held(), self.node.out()), ([held[0], held[2]], [1, 2]))

    def test_send_refused(self):
        for number in (-1, 4, 99):
            self.refused(lambda: self.node.send(number, "there"), NoParcel, number=number)
            self.refused(lambda: self.node.send(number, "here"), NoParcel, number=number)
        self.refused(lambda: self.node.send(0, "here"), WrongReceiver, name="here")
        self.assertEqual(self.node.send(0, "there")[1], 1)

    def test_numbers_go_on_behind_confirmed_letters(self):
        self.node.send(0, "there")
        self.node.confirm(1)
        self.assertEqual((self.node.send(0, "there")[1], self.node.out()), (2, [2]))

    def test_again(self):
        letter = self.node.send(1, "there")
        other = self.node.send(0, "far")
        for _ in range(2):
            self.assertEqual((self.node.again(1), self.node.again(2)), (letter, other))
        self.assertEqual(self.node.out(), [1, 2])

    def test_again_of_letters_that_are_not_out(self):
        self.refused(lambda: self.node.again(1), UnknownLetter, number=1)
        self.node.send(1, "there")
        for number in (0, 2, -1):
            self.refused(lambda: self.node.again(number), UnknownLetter, number=number)
        self.node.confirm(1)
        self.refused(lambda: self.node.again(1), UnknownLetter, number=1)

    def test_out_is_a_new_ascending_list(self):
        for _ in range(3):
            self.node.send(0, "there")
        self.node.confirm(2)
        self.node.out().clear()
        self.assertEqual(self.node.out(), [1, 3])

    def test_confirm(self):
        letter = self.node.send(1, "there")
        for number in (0, 2, -1, 99):
            self.assertIsNone(self.node.confirm(number))
        self.assertEqual((self.node.out(), self.node.again(1)), ([1], letter))
        for _ in range(2):
            self.assertIsNone(self.node.confirm(1))
            self.assertEqual(self.node.out(), [])
        self.assertEqual(len(self.node.held()), 3)


class TakeTest(unittest.TestCase):
    def setUp(self):
        self.left = Node("left", [parcel(0), parcel(1)])
        self.right = Node("right", [parcel(2), parcel(3, "p7")])

    def refused(self, node, letter, error, **told):
        before = seen(node)
        with self.assertRaises(error) as caught:
            node.take(letter)
        self.assertEqual(vars(caught.exception), told)
        self.assertEqual(seen(node), before)

    def test_a_letter(self):
        letter = self.left.send(0, "right")
        held = self.right.held()
        self.assertIs(self.right.has_taken("left", 1), False)
        self.assertIs(self.right.take(letter), True)
        self.assertEqual(self.right.held(), held + [letter[3]])
        self.assertIs(self.right.has_taken("left", 1), True)
        self.assertEqual((self.left.out(), self.right.out()), ([1], []))

    def test_a_letter_that_comes_several_times(self):
        letter = self.left.send(0, "right")
        self.right.take(letter)
        held = self.right.held()
        for _ in range(2):
            self.assertIs(self.right.take(self.left.again(1)), False)
            self.assertEqual(self.right.held(), held)

    def test_a_letter_that_comes_late(self):
        letter = self.left.send(0, "right")
        self.right.take(letter)
        self.left.confirm(1)
        self.assertIs(self.right.take(letter), False)
        # the right node sends it on, and the old letter comes once more
        self.right.send(2, "far")
        self.assertIs(self.right.take(letter), False)
        self.right.confirm(1)
        self.assertIs(self.right.take(letter), False)
        self.assertEqual([parts for parts, _ in self.right.held()], [("p2",), ("p3", "p7")])

    def test_a_letter_that_comes_behind_a_later_one(self):
        first, second = self.left.send(0, "right"), self.left.send(0, "right")
        self.assertEqual((self.right.take(second), self.right.take(first), self.right.take(second)), (True, True, False))
        self.assertEqual([parts for parts, _ in self.right.held()], [("p2",), ("p3", "p7"), ("p1",), ("p0",)])

    def test_the_sender_counts_and_the_number(self):
        self.right.take(self.left.send(0, "right"))
        self.assertIs(self.right.take(("far", 1, "right", parcel(5))), True)
        self.assertIs(self.right.take(("left", 2, "right", parcel(6))), True)
        told = [self.right.has_taken(*pair) for pair in (("left", 1), ("far", 1), ("left", 2), ("far", 2), ("right", 1))]
        self.assertEqual(told, [True, True, True, False, False])

    def test_the_wrong_node(self):
        letter = self.left.send(0, "far")
        self.refused(self.right, letter, WrongReceiver, name="far")
        self.refused(self.left, letter, WrongReceiver, name="far")
        self.assertIs(self.right.has_taken("left", 1), False)

    def test_the_wrong_node_comes_ahead_of_all_else(self):
        self.right.take(self.left.send(0, "right"))
        self.refused(self.right, ("left", 1, "far", parcel(2)), WrongReceiver, name="far")

    def test_a_part_that_the_node_holds(self):
        self.refused(self.right, ("left", 1, "right", parcel(2)), SharedPart, part="p2")
        shared = (("p2", "p5", "p7"), Weighted.empty(2))
        self.refused(self.right, ("left", 1, "right", shared), SharedPart, part="p2")
        self.refused(self.right, ("left", 1, "right", (("p5", "p7"), Weighted.empty(2))), SharedPart, part="p7")
        self.assertIs(self.right.has_taken("left", 1), False)
        self.assertIs(self.right.take(("left", 1, "right", parcel(5))), True)

    def test_a_part_that_the_node_has_out(self):
        letter = self.right.send(1, "left")
        self.refused(self.right, ("left", 1, "right", (("p5", "p7"), Weighted.empty(2))), SharedPart, part="p7")
        self.left.take(letter)
        self.refused(self.right, self.left.send(2, "right"), SharedPart, part="p3")
        self.right.confirm(1)
        self.assertIs(self.right.take(self.left.again(1)), True)

    def test_a_letter_taken_before_needs_no_other_part(self):
        letter = self.left.send(0, "right")
        self.right.take(letter)
        self.assertIs(self.right.take(("left", 1, "right", parcel(2))), False)


class CountedTest(unittest.TestCase):
    def test_held_and_out(self):
        left, right = Node("left", [parcel(1), parcel(0, "p8")]), Node("right", [parcel(2)])
        self.assertEqual(counted([right, left]), [
            ("p0", "held", "left"), ("p1", "held", "left"), ("p2", "held", "right"), ("p8", "held", "left")])
        letter = left.send(1, "right")
        pending = [("p0", "out", "left"), ("p1", "held", "left"), ("p2", "held", "right"), ("p8", "out", "left")]
        self.assertEqual((counted([left, right]), counted([right, left])), (pending, pending))
        right.take(letter)
        taken = [("p0", "held", "right"), ("p1", "held", "left"), ("p2", "held", "right"), ("p8", "held", "right")]
        self.assertEqual(counted([left, right]), taken)
        left.confirm(1)
        self.assertEqual(counted([left, right]), taken)

    def test_letters_to_nodes_that_are_not_in_the_list(self):
        left, right = Node("left", [parcel(0)]), Node("right", [])
        right.take(left.send(0, "right"))
        self.assertEqual(counted([left]), [("p0", "out", "left")])
        self.assertEqual(counted([right]), [("p0", "held", "right")])
        self.assertEqual(counted([]), [])

    def test_a_part_that_was_lost_or_is_there_twice(self):
        left, right = Node("left", [parcel(0)]), Node("right", [parcel(0)])
        self.assertEqual(counted([left, right]), [("p0", "held", "left"), ("p0", "held", "right")])
        left.send(0, "right")
        self.assertEqual(counted([left, right]), [("p0", "held", "right"), ("p0", "out", "left")])
        left.confirm(1)
        self.assertEqual(counted([left, right]), [("p0", "held", "right")])

    def test_nothing_changes(self):
        left, right = Node("left", [parcel(0), parcel(1)]), Node("right", [])
        left.send(0, "right")
        before = [seen(left), seen(right)]
        counted([left, right]).clear()
        self.assertEqual([seen(left), seen(right)], before)


class FactsTest(unittest.TestCase):
    def step(self, nodes, letters, dice):
        """Let chance do one thing: merge, send, send again, deliver any letter ever sent, or confirm a taken one."""
        node = nodes[dice.pick([1] * len(nodes))]
        other = nodes[dice.pick([1] * len(nodes))]
        held = len(node.held())
        what = dice.pick([2, 2, 1, 4, 2])
        if what == 0 and held > 1:
            node.merge(dice.pick([1] * held), dice.pick([1] * (held - 1) + [0]), dice)
        elif what == 1 and held:
            letters.append(node.send(dice.pick([1] * held), other.name))
        elif what == 2 and node.out():
            letters.append(node.again(node.out()[-1]))
        elif what == 3 and letters:
            node.take(letters[dice.pick([1] * len(letters))])
        elif what == 4 and node.out():
            number = node.out()[0]
            receiver = [one for one in nodes if one.name == node.again(number)[2]][0]
            if receiver.has_taken(node.name, number):
                node.confirm(number)

    def test_each_part_counts_at_exactly_one_place(self):
        parts = [f"p{number}" for number in range(6)]
        for seed in range(40):
            nodes = [Node("x", [parcel(0), parcel(1)]), Node("y", [parcel(2), parcel(3)]), Node("z", [parcel(4), parcel(5)])]
            letters = []
            dice = Mixer(seed)
            for _ in range(80):
                try:
                    self.step(nodes, letters, dice)
                except (NoParcel, WrongReceiver, SharedPart):
                    pass
                self.assertEqual([part for part, _, _ in counted(nodes)], parts)

    def test_in_the_end_all_can_be_merged(self):
        left, right = Node("left", [parcel(0), parcel(1)]), Node("right", [parcel(2)])
        left.merge(1, 0, Mixer(2))
        letter = left.send(0, "right")
        for _ in range(3):
            right.take(letter)
        right.merge(0, 1, Mixer(3))
        (parts, sample), = right.held()
        self.assertEqual((parts, sample.total, len(sample.kept)), (("p0", "p1", "p2"), 6, 2))
        self.assertEqual([row[1:] for row in counted([left, right])], [("held", "right")] * 3)

    def test_all_orders_of_two_letters_and_their_copies(self):
        for order in itertools.product((0, 1), repeat=4):
            left, right = Node("left", [parcel(0), parcel(1)]), Node("right", [])
            letters = [left.send(0, "right"), left.send(0, "right")]
            taken = [right.take(letters[at]) for at in order]
            self.assertEqual(taken, [at not in order[:place] for place, at in enumerate(order)])
            self.assertEqual(len(right.held()), len(set(order)))


if __name__ == "__main__":
    unittest.main()
