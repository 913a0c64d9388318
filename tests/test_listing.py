"""Counting and listing the reachable states, and the shortest walks to them."""

import itertools
import math
import random
import unittest

from handwalk.decisions import is_reachable, parts
from handwalk.errors import InvalidState, LimitExceeded
from handwalk.listing import MAX_LISTED, count_arrangements, count_states, farthest, states, walk_to
from handwalk.networks import Network
from tests import oracle
from tests.samples import (
    QuickTestCase, deep_values, greatest_networks, larger_networks, networks_of_five, odd_tuples, odd_values,
    random_state, small_networks, special_networks,
)

A = Network(2, ((0, 1), (0, 1)))
B = Network(2, ((0, 1), (1, 1)))


def line(places):
    return tuple((k, k + 1) for k in range(places - 1))


def ring(places):
    return line(places) + ((0, places - 1),)


def near_the_limit():
    """Return pairs of a network and the number of its reachable states, which is near to the limit.

    No network has exactly 5,000 such states: the next numbers are 4,950 and 5,040.
    """
    four = ((3, 4), (4, 5), (5, 6), (3, 6))
    return [
        (Network(11, ((0, 0), (0, 0), (0, 1), (1, 2), (1, 2), (2, 3), *four, (6, 7),
                      (7, 8), (8, 9), (9, 10), (7, 10))), 6 * 3 * 5 * 5 * 11),
        (Network(9, ((0, 0), (0, 0), (0, 1), (1, 1), (1, 1), (1, 2), (2, 3), (2, 3), (3, 4),
                     (4, 5), (5, 6), (6, 7), (4, 7), (7, 8))), 6 * 6 * 3 * 5 * 9),
        (Network(6, ((0, 0),) * 5 + line(6)), 720 * 6),
        (Network(12, ((0, 1),) * 5 + line(12)[1:]), 360 * 12),
        (Network(8, ((0, 1),) * 4 + ((1, 2), (2, 3), (3, 4), (4, 5), (2, 5), (5, 6), (6, 6), (6, 7))), 60 * 5 * 2 * 8),
        (Network(1, ((0, 0),) * 6), 5040),
        (Network(7, ((0, 0),) * 5 + line(7)), 720 * 7),
        (Network(2, ((0, 1),) * 6), 2520 * 2),
    ]


class TestCounts(QuickTestCase):
    def test_against_a_list_of_all_states(self):
        for network in small_networks() + networks_of_five():
            walks = oracle.all_states(network)
            self.assertEqual(count_states(network), len(walks))
            self.assertEqual(count_arrangements(network), sum(state[0] == 0 for state in walks))

    def test_known_numbers(self):
        for network, many in (
            (Network(1, ()), 1), (Network(12, line(12)), 1), (Network(1, ((0, 0),)), 2), (A, 3), (B, 2),
            (Network(12, ring(12)), 13), (Network(1, ((0, 0),) * 16), math.factorial(17)),
            (Network(2, ((0, 1),) * 16), math.factorial(17) // 2), (Network(2, ((0, 1),) * 3), 12),
            (Network(4, ((0, 1), (1, 2), (2, 3), (0, 3), (0, 2))), 120),
            (Network(12, ring(12) + ((0, 6), (2, 8), (4, 10), (6, 6))), math.factorial(17)),
            (Network(12, ring(12) + ((0, 5), (2, 7), (4, 9), (6, 11))), math.factorial(17) // 2),
        ):
            self.assertEqual(count_arrangements(network), many)
            self.assertEqual(count_states(network), many * network.places)

    def test_the_numbers_multiply(self):
        for network in larger_networks() + greatest_networks() + special_networks():
            expected = 1
            for part in oracle.described_parts(network):
                size = math.factorial(len(part.seats))
                expected *= {"ring": len(part.seats), "even": size // 2, "all": size, "special": 120}[part.kind]
            self.assertEqual(count_arrangements(network), expected)
            self.assertEqual(count_states(network), expected * network.places)
        kinds = greatest_networks()[2]
        self.assertEqual(len(parts(kinds)), 4)
        self.assertEqual(count_arrangements(kinds), 120 * 12 * 24 * 2)

    def test_by_name(self):
        self.assertEqual((count_arrangements(network=A), count_states(network=A)), (3, 6))


class TestStates(QuickTestCase):
    def check(self, network):
        walks = oracle.all_states(network)
        expected = sorted((len(walk), state) for state, walk in walks.items())
        found = list(states(network))
        self.assertEqual(found, expected)
        greatest = expected[-1][0]
        last = tuple(state for distance, state in expected if distance == greatest)
        self.assertEqual(farthest(network), (greatest, last))
        return walks

    def test_small_networks(self):
        for network in small_networks() + networks_of_five()[::2]:
            self.check(network)

    def test_the_network_without_passages(self):
        network = Network(1, ())
        self.assertEqual(list(states(network)), [(0, (0, (0,)))])
        self.assertEqual(farthest(network), (0, ((0, (0,)),)))

    def test_kinds_of_values(self):
        for pair in states(A):
            distance, state = pair
            self.assertEqual((type(pair), type(distance), type(state)), (tuple, int, tuple))
            self.assertEqual((type(state[0]), type(state[1])), (int, tuple))
        self.assertEqual([type(item) for item in (farthest(A), *farthest(A))], [tuple, int, tuple])

    def test_by_name(self):
        self.assertEqual(len(list(states(network=A))), 6)
        self.assertEqual(farthest(network=A), farthest(A))

    def test_two_lists_in_turn(self):
        first, second = states(A), states(B)
        mixed = [(next(first), next(second)) for _ in range(4)]
        self.assertEqual([pair[0] for pair in mixed], list(states(A))[:4])
        self.assertEqual([pair[1] for pair in mixed], list(states(B)))
        self.assertEqual(list(first), list(states(A))[4:])

    def test_near_the_limit(self):
        self.assertEqual([many for network, many in near_the_limit() if 4900 < many < 5100], [4950, 5040, 5040, 5040])
        for network, many in near_the_limit():
            self.assertEqual(count_states(network), many)
            if many <= 5000:
                found = list(states(network))
                self.assertEqual(len(found), many)
                self.assertEqual(len(set(found)), many)
                self.assertEqual(found, sorted(found))
                self.assertEqual(farthest(network)[0], found[-1][0])


class TestLimit(QuickTestCase):
    def test_the_limit(self):
        self.assertEqual(MAX_LISTED, 5000)

    def check_too_many(self, network):
        pairs = states(network)
        self.assertEqual(self.caught(LimitExceeded, next, pairs).limit, 5000)
        self.assertEqual(self.caught(LimitExceeded, farthest, network).limit, 5000)
        self.assertEqual(self.caught(LimitExceeded, walk_to, network, network.start).limit, 5000)
        things = network.start[1]
        last = (network.places - 1, things[::-1])
        self.assertEqual(self.caught(LimitExceeded, walk_to, network, last).limit, 5000)

    def test_too_many_states(self):
        for network, many in near_the_limit():
            if many > 5000:
                self.check_too_many(network)
        for network in greatest_networks():
            if count_states(network) > 5000:
                self.check_too_many(network)

    def test_a_state_that_is_not_reachable_comes_after_the_limit(self):
        network = Network(8, ((0, 0),) * 6 + line(8))
        # The thing of a bridge is in the hand.
        state = (0, (*range(6), 13, *range(7, 13), 6))
        self.assertIs(is_reachable(network, state), False)
        self.assertEqual(self.caught(LimitExceeded, walk_to, network, state).limit, 5000)

    def test_the_state_is_checked_before_the_limit(self):
        network = greatest_networks()[0]
        for state, part in (([], "form"), ((12, network.start[1]), "place"), ((0, (0, 1)), "arrangement")):
            self.assertEqual(self.caught(InvalidState, walk_to, network, state).part, part)


class TestWalkTo(QuickTestCase):
    def test_the_least_of_the_shortest_walks(self):
        for network in small_networks() + [network for network in networks_of_five() if len(network.passages) <= 4]:
            for state, walk in list(oracle.all_states(network).items())[::3]:
                found = walk_to(network, state)
                self.assertEqual(found, walk)
                self.assertIs(type(found), tuple)

    def test_some_states_with_five_passages(self):
        for number, network in enumerate(networks_of_five()):
            if len(network.passages) == 5 and number % 4 == 0:
                for state, walk in list(oracle.all_states(network).items())[number % 61::61]:
                    self.assertEqual(walk_to(network, state), walk)

    def test_states_that_are_not_reachable(self):
        for network in networks_of_five():
            if len(network.passages) <= 3:
                walks = oracle.all_states(network)
                things = range(len(network.passages) + 1)
                for state in itertools.product(range(network.places), itertools.permutations(things)):
                    self.assertEqual(walk_to(network, state), walks.get(state))

    def test_larger_networks(self):
        rng = random.Random(30)
        for network in (Network(12, ring(12)), *[network for network, many in near_the_limit() if many <= 5000]):
            walks = oracle.all_states(network)
            for _ in range(3):
                state, _ = random_state(network, rng, 25)
                self.assertEqual(walk_to(network, state), walks[state])

    def test_the_start(self):
        for network in (Network(1, ()), A, B, Network(12, line(12))):
            self.assertEqual(walk_to(network, network.start), ())

    def test_by_name(self):
        self.assertEqual(walk_to(state=(0, (1, 2, 0)), network=A), (1, 0))
        self.assertIsNone(walk_to(state=(0, (1, 0, 2)), network=A))

    def test_wrong_states(self):
        for network in (Network(1, ()), A):
            things = network.start[1]
            for value in odd_values() + odd_tuples():
                self.assertEqual(self.caught(InvalidState, walk_to, network, (value, things)).part, "place")
                self.assertEqual(self.caught(InvalidState, walk_to, network, [value, things]).part, "form")
        for value in (True, False):
            self.assertEqual(self.caught(InvalidState, walk_to, A, (0, (value, 2, 0))).part, "arrangement")
        for value in deep_values():
            self.assertEqual(self.caught(InvalidState, walk_to, A, (0, value)).part, "arrangement")

    def test_another_network_in_between_changes_nothing(self):
        for first, second in itertools.permutations((A, B, Network(3, ((0, 1), (1, 2), (0, 2)))), 2):
            before = list(states(first)), farthest(first)
            list(states(second))
            walk_to(second, second.start)
            self.assertEqual((list(states(first)), farthest(first)), before)


if __name__ == "__main__":
    unittest.main()
