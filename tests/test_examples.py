"""The examples of the document, as it shows them, and those of README.md."""

import doctest
import pathlib
import unittest

README = pathlib.Path(__file__).resolve().parent.parent / "README.md"

LAWS = '''
>>> from samphire.dice import Mixer, Tape
>>> from samphire.explore import Explorer
>>> from samphire.laws import carried, difference, joined, law_from, mean, variance
>>> tape = Tape([7, 2])
>>> tape.pick([2, 0, 3]), tape.pick([1, 1]), tape.pick([0, 5])
(2, 0, 1)
>>> explorer = Explorer()
>>> while explorer.begin():
...     first = explorer.pick([1, 2])
...     explorer.end(first + explorer.pick([3, 1][first:] + [1]))
>>> explorer.runs(), explorer.gathered()
(5, [(0, (1, 5)), (1, (2, 5)), (2, (2, 5))])
>>> rows = law_from([("b", (1, 2)), ("a", (1, 3)), ("b", (1, 6))])
>>> rows, carried(rows, {"a": "b"}), difference(rows, [("b", (1, 1))])
([('a', (1, 3)), ('b', (2, 3))], [('b', (1, 1))], 'a')
>>> mean([((1, 1), (1, 3)), ((4, 1), (2, 3))]), variance([((1, 1), (1, 3)), ((4, 1), (2, 3))]), len(joined(rows, rows))
((3, 1), (2, 1), 4)
'''

UNIFORM = '''
>>> from samphire.dice import Tape
>>> from samphire.uniform import Uniform, item_chance, pair_chance, uniform_law, uniform_merge
>>> ann, bob, cy = ("ann", "g", 2, 5), ("bob", "g", 1, 7), ("cy", "h", 3, -4)
>>> one = Uniform.single(ann, 1).merge(Uniform.single(bob, 1), Tape([1, 0]))
>>> one.view()
(1, 2, (('bob', 'g', 1, 7),))
>>> uniform_law([ann, bob, cy], 2)[0], len(uniform_law([ann, bob, cy], 2))
(((2, 3, (('ann', 'g', 2, 5), ('bob', 'g', 1, 7))), (1, 3)), 3)
>>> uniform_merge(Uniform(1, 2, [bob]), Uniform.single(cy, 1))
[((1, 3, (('bob', 'g', 1, 7),)), (2, 3)), ((1, 3, (('cy', 'h', 3, -4),)), (1, 3))]
>>> item_chance(5, 2), pair_chance(5, 2), pair_chance(2, 4)
((2, 5), (1, 10), (1, 1))
'''

WEIGHTED = '''
>>> from samphire.weighted import Weighted, order_chance, set_chance, weighted_law, weighted_merge
>>> order_chance(6, [ann, cy]), order_chance(6, [cy, ann]), set_chance(6, [ann, cy])
((1, 4), (1, 3), (7, 12))
>>> [chance for view, chance in weighted_law([ann, bob, cy], 1)]
[(1, 3), (1, 6), (1, 2)]
>>> weighted_merge(Weighted(2, 3, [ann, bob]), Weighted.single(cy, 2)) == [((2, 6, (ann, bob)), (1, 8)), ((2, 6, (ann, cy)), (3, 8)), ((2, 6, (cy, ann)), (1, 2))]
True
'''


class ExamplesTest(unittest.TestCase):
    def check(self, *texts):
        """Run the texts one behind the other, with the names of the earlier ones."""
        names = {}
        runner = doctest.DocTestRunner(verbose=False)
        told = []
        for text in texts:
            test = doctest.DocTestParser().get_doctest(text, names, "example", None, 0)
            self.assertTrue(test.examples)
            runner.run(test, out=told.append, clear_globs=False)
            names = test.globs
        self.assertEqual("".join(told), "")

    def test_readme(self):
        self.check(README.read_text("utf-8").replace("```", ""))

    def test_laws(self):
        self.check(LAWS)

    def test_uniform_and_weighted(self):
        self.check(UNIFORM, WEIGHTED)


if __name__ == "__main__":
    unittest.main()
