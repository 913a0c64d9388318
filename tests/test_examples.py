"""The examples of the document, word for word, and those of README.md."""

import doctest
import pathlib
import unittest

README = pathlib.Path(__file__).resolve().parent.parent / "README.md"

PERMUTATIONS = """
>>> from handwalk.permutations import compose, cycles, inverse, is_even, order
>>> turn = (1, 2, 0, 4, 3)
>>> compose(turn, turn), inverse(turn), cycles(turn), order(turn), is_even(turn)
((2, 0, 1, 3, 4), (2, 0, 1, 4, 3), ((0, 1, 2), (3, 4)), 6, False)
"""

NETWORKS = """
>>> from handwalk.networks import Network
>>> network = Network.joined((0, 1), (1, 1))
>>> network.places, network.start, network.bridges, network.cells, network.way(1, 0)
(2, (0, (0, 1, 2)), (0,), ((0,), (1,)), (0,))
"""

MOVES = """
>>> from handwalk.moves import after, effect, reduced, trace
>>> from handwalk.networks import Network
>>> network = Network(2, ((0, 1), (0, 1)))
>>> list(trace(network, network.start, 0, 1)), effect(network, 0, 0, 1), reduced(0, 1, 1, 0, 1)
([(0, (0, 1, 2)), (1, (2, 1, 0)), (0, (2, 0, 1))], (1, 2, 0), (1,))
"""

DECISIONS = """
>>> from handwalk.decisions import check_decision, decide, parts
>>> from handwalk.networks import Network
>>> network = Network(2, ((0, 1), (0, 1)))
>>> check_decision(network, (0, (2, 0, 1)), ("walk", (0, 1))), decide(network, (0, (1, 0, 2)))[0], parts(network)[0].circle
('walk', 'ring', (2, 0, 1))
"""

BRIDGE_DECISIONS = """
>>> from handwalk.decisions import check_decision, decide, parts
>>> from handwalk.networks import Network
>>> network = Network(2, ((0, 1), (1, 1)))
>>> decide(network, (0, (1, 0, 2))), decide(network, (0, (2, 1, 0)))[0], parts(network)[0].gate
(('walk', (0, 1, 0)), 'astray', 0)
"""

LISTING = """
>>> from handwalk.listing import count_arrangements, count_states, farthest, states, walk_to
>>> from handwalk.networks import Network
>>> network = Network(2, ((0, 1), (0, 1)))
>>> count_arrangements(network), count_states(network), list(states(network))[1:3], farthest(network)[0], walk_to(network, (0, (1, 2, 0)))
(3, 6, [(1, (1, (0, 2, 1))), (1, (1, (2, 1, 0)))], 3, (1, 0))
"""

BRINGING = """
>>> from handwalk.bringing import bring, reachable_spots
>>> from handwalk.networks import Network
>>> network = Network(2, ((0, 1), (1, 1)))
>>> reachable_spots(network, 1), bring(network, 1, 0), bring(network, 1, 0, place=1)
(((0, 0), (0, 1), (1, 1), (1, 2)), (0, 1, 0), None)
"""

KINDS = """
>>> from handwalk.kinds import count_patterns, match
>>> from handwalk.networks import Network
>>> network = Network(2, ((0, 1), (0, 1)))
>>> match(network, (5, 5, 7), (7, 5, 5)), match(network, (5, 5, 7), (7, 7, 5)), count_patterns(network, (5, 5, 7))
((2, 0, 1), None, 3)
"""

CONSOLE = """
>>> from handwalk.console import Console
>>> console = Console()
>>> console.run("new 0 1 / 0 1"), console.run("walk 0 1"), console.run("state"), console.run("bring 2 0")
('ok', '0', '0 2 0 1', '0')
"""

NAMED_NETWORKS = """
>>> from handwalk.networks import Network
>>> A = Network(2, ((0, 1), (0, 1)))
>>> B = Network(2, ((0, 1), (1, 1)))
>>> A.bridges, A.cells, B.bridges, B.cells
((), ((0, 1),), (0,), ((0,), (1,)))
"""


class TestExamples(unittest.TestCase):
    def check(self, text):
        example = doctest.DocTestParser().get_doctest(text, {}, "example", None, 0)
        report = []
        results = doctest.DocTestRunner().run(example, out=report.append)
        self.assertTrue(results.attempted > 0)
        self.assertEqual(results.failed, 0, "".join(report))

    def test_permutations(self):
        self.check(PERMUTATIONS)

    def test_networks(self):
        self.check(NETWORKS)

    def test_moves(self):
        self.check(MOVES)

    def test_decisions(self):
        self.check(DECISIONS)
        self.check(BRIDGE_DECISIONS)

    def test_listing(self):
        self.check(LISTING)

    def test_bringing(self):
        self.check(BRINGING)

    def test_kinds(self):
        self.check(KINDS)

    def test_console(self):
        self.check(CONSOLE)

    def test_the_networks_of_the_examples(self):
        self.check(NAMED_NETWORKS)

    def test_readme(self):
        self.check(README.read_text(encoding="ascii"))


if __name__ == "__main__":
    unittest.main()
