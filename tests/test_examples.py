"""The examples of the document, word for word, and those of README.md."""

import doctest
import pathlib
import unittest

README = pathlib.Path(__file__).resolve().parent.parent / "README.md"

PERMUTATIONS = """
>>> from handwalk.permutations import compose, cycles, inverse, is_even, order
>>> turn = (1, 2, 0, 4, 3)
>>> compose(turn, turn), inverse(turn), cycles(turn), order(turn), is_even(turn)
((2, 0, 1, 3, 4), (2, 0, 1, 4, 3), ((0, 1, 2), (3, 4)), 6, False)
"""

NETWORKS = """
>>> from handwalk.networks import Network
>>> network = Network.joined((0, 1), (1, 1))
>>> network.places, network.start, network.bridges, network.cells, network.way(1, 0)
(2, (0, (0, 1, 2)), (0,), ((0,), (1,)), (0,))
"""

NAMED_NETWORKS = """
>>> from handwalk.networks import Network
>>> A = Network(2, ((0, 1), (0, 1)))
>>> B = Network(2, ((0, 1), (1, 1)))
>>> A.bridges, A.cells, B.bridges, B.cells
((), ((0, 1),), (0,), ((0,), (1,)))
"""


class TestExamples(unittest.TestCase):
    def check(self, text):
        example = doctest.DocTestParser().get_doctest(text, {}, "example", None, 0)
        report = []
        results = doctest.DocTestRunner().run(example, out=report.append)
        self.assertTrue(results.attempted > 0)
        self.assertEqual(results.failed, 0, "".join(report))

    def test_permutations(self):
        self.check(PERMUTATIONS)

    def test_networks(self):
        self.check(NETWORKS)

    def test_the_networks_of_the_examples(self):
        self.check(NAMED_NETWORKS)

    def test_readme(self):
        self.check(README.read_text(encoding="ascii"))


if __name__ == "__main__":
    unittest.main()
