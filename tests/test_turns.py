"""Walks with a given effect, in networks that are one part of the kind "even" or "all"."""

import random
import unittest

from handwalk.moves import effect
from handwalk.networks import Network
from handwalk.permutations import is_even
from handwalk.turns import odd_walk, walk_with
from tests import oracle
from tests.samples import QuickTestCase, greatest_networks, networks_of_five


def one_part(network):
    [*described] = oracle.described_parts(network)
    return len(described) == 1 and described[0].cell == tuple(range(network.places)) and described[0].kind


def with_cycles(size, lengths):
    """Return a permutation with cycles of these lengths."""
    moved = list(range(size))
    first = size - sum(lengths)
    for length in lengths:
        cycle = list(range(first, first + length))
        for position, goal in zip(cycle, cycle[1:] + cycle[:1]):
            moved[position] = goal
        first += length
    return tuple(moved)


class TestWalkWith(QuickTestCase):
    def check(self, network, permutation):
        walk = walk_with(network, permutation)
        self.assertEqual(oracle.walked(network, oracle.start_of(network), walk)[0], 0)
        self.assertEqual(effect(network, 0, *walk), permutation)

    def test_all_effects_in_small_networks(self):
        for network in networks_of_five():
            if one_part(network) in ("even", "all") and len(network.passages) <= 4:
                for state, walk in oracle.all_states(network).items():
                    if state[0] == 0:
                        self.check(network, effect(network, 0, *walk))

    def test_cycles_of_many_lengths(self):
        networks = [network for network in greatest_networks() if one_part(network) in ("even", "all")]
        self.assertGreater(len(networks), 10)
        for network in networks:
            size = len(network.passages) + 1
            for lengths in (
                (), (3,), (2, 2), (4, 2), (2, 2, 2, 2), (2,) * 6, (2,) * 8, (4, 2, 4, 2), (6, 2, 3, 5), (size,), (2,),
                (2, 2, 2),
            ):
                if sum(lengths) <= size:
                    permutation = with_cycles(size, lengths)
                    if is_even(permutation) or one_part(network) == "all":
                        self.check(network, permutation)

    def test_effects_by_chance(self):
        rng = random.Random(17)
        for network in greatest_networks():
            if one_part(network) == "all":
                for _ in range(3):
                    size = len(network.passages) + 1
                    self.check(network, tuple(rng.sample(range(size), size)))

    def test_odd_walks(self):
        for network in networks_of_five() + greatest_networks():
            colors = {0: 0}
            for _ in range(network.places):
                for u, v in network.passages:
                    for near, far in ((u, v), (v, u)):
                        if near in colors:
                            colors.setdefault(far, 1 - colors[near])
            walk = odd_walk(network)
            if all(colors[u] != colors[v] for u, v in network.passages):
                self.assertIsNone(walk)
            else:
                self.assertEqual(len(walk) % 2, 1)
                self.assertEqual(oracle.walked(network, oracle.start_of(network), walk)[0], 0)


if __name__ == "__main__":
    unittest.main()
