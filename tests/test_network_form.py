"""Which networks there are, how they are made, and what can be read of them."""

import copy
import itertools
import unittest

from handwalk.errors import InvalidNetwork
from handwalk.networks import Network
from tests.samples import QuickTestCase, deep_values, larger_networks, odd_tuples, odd_values, small_networks

LINE = tuple((k, k + 1) for k in range(11))


def not_passages():
    """Return values that are no passages between two of three places."""
    pairs = [
        (), (0,), (1, 0), (2, 1), (0, 1, 2), (0, 3), (3, 3), (-1, 0), (-1, -1), (0, 10 ** 999), (True, 1), (0, True),
        (False, 1), (0, False), (False, False), (True, True), (False, True), (1, True), ("0", "1"), (0, "1"),
        (0, None), (None, None), ((0, 1), 0), (0, (0, 1)), ([0], [1]), (0, [1]),
    ]
    return pairs + odd_values() + [0, 1, 2, 10 ** 999]


class NetworkTestCase(QuickTestCase):
    def check_error(self, part, index, places, passages):
        """Check the error by position and by name, and is_valid with the same values."""
        by_position = self.caught(InvalidNetwork, Network, places, passages)
        by_name = self.caught(InvalidNetwork, Network, passages=passages, places=places)
        for error in (by_position, by_name):
            self.assertEqual((error.part, error.index), (part, index))
        self.assertIs(Network.is_valid(places, passages), False)
        self.assertIs(Network.is_valid(passages=passages, places=places), False)

    def check_valid(self, places, passages):
        network = Network(places, passages)
        self.assertEqual((network.places, network.passages), (places, passages))
        self.assertIs(Network.is_valid(places, passages), True)
        return network


class TestConstructor(NetworkTestCase):
    def test_class_values(self):
        network = Network(1, ())
        self.assertEqual((Network.MAX_PLACES, Network.MAX_PASSAGES), (12, 16))
        self.assertEqual((network.MAX_PLACES, network.MAX_PASSAGES), (12, 16))

    def test_by_name(self):
        network = Network(passages=((0, 1),), places=2)
        self.assertEqual((network.places, network.passages), (2, ((0, 1),)))

    def test_numbers_of_places(self):
        for places in range(1, 13):
            self.check_valid(places, LINE[:places - 1])
        for places in (0, 13, 14, -1, -12, 10 ** 999, -(10 ** 999)):
            self.check_error("places", None, places, ())
            self.check_error("places", None, places, LINE + ((0, 12),))

    def test_thirteen_places_that_are_connected(self):
        self.check_error("places", None, 13, LINE + ((11, 12),))

    def test_numbers_of_passages(self):
        for many in range(17):
            self.check_valid(1, ((0, 0),) * many)
        for many in range(1, 17):
            self.check_valid(2, ((0, 1),) * many)
        for many in (17, 18, 100, 10_000):
            self.check_error("passages", None, 1, ((0, 0),) * many)
            self.check_error("passages", None, 2, ((0, 1),) * many)

    def test_the_greatest_network(self):
        self.check_valid(12, LINE + ((0, 11), (11, 11), (3, 4), (3, 4), (0, 5)))

    def test_other_kinds_of_places(self):
        for value in odd_values() + odd_tuples() + [(1,), "1", [1]]:
            self.check_error("places", None, value, ())
            self.check_error("places", None, value, ((0, 1),))

    def test_truth_values_are_no_numbers_of_places(self):
        self.check_error("places", None, True, ())
        self.check_error("places", None, True, ((0, 0),))
        self.check_error("places", None, False, ())

    def test_other_kinds_of_passages(self):
        others = [value for value in odd_values() if not isinstance(value, tuple)]
        for value in others + [0, 1, 10 ** 999, [], [(0, 0)], ((0, 0) for _ in range(1))]:
            self.check_error("passages", None, 1, value)
            self.check_error("passages", None, 2, value)

    def test_lists_in_place_of_tuples(self):
        self.check_error("passages", None, 2, [(0, 1)])
        self.check_error("passages", 0, 2, ([0, 1],))
        self.check_error("passages", 1, 2, ((0, 1), [0, 1]))

    def test_truth_values_are_no_places(self):
        for pair in ((False, 1), (0, True), (False, True), (True, True), (False, False), (0, False), (True, 1)):
            self.check_error("passages", 0, 2, (pair,))
            self.check_error("passages", 1, 2, ((0, 1), pair))

    def test_what_is_not_a_passage(self):
        for value in not_passages():
            self.check_error("passages", 0, 3, (value,))
            self.check_error("passages", 0, 3, (value, (0, 1), (1, 2)))
            self.check_error("passages", 2, 3, ((0, 1), (1, 2), value))
            self.check_error("passages", 1, 3, ((0, 1), value, (1, 2), value))

    def test_passages_of_another_number_of_places(self):
        for places in range(1, 13):
            self.check_error("passages", places, places, ((0, 0),) + LINE[:places - 1] + ((0, places),))
            self.check_error("passages", 0, places, ((places, places),))

    def test_a_passage_in_the_wrong_direction(self):
        self.check_error("passages", 0, 2, ((1, 0),))
        self.check_error("passages", 1, 12, ((0, 11), (11, 0)))

    def test_the_connection(self):
        self.check_error("connection", None, 2, ())
        self.check_error("connection", None, 2, ((0, 0), (1, 1)))
        self.check_error("connection", None, 3, ((0, 1), (0, 1)))
        self.check_error("connection", None, 3, ((1, 2), (1, 2), (0, 0)))
        self.check_error("connection", None, 4, ((0, 1), (2, 3)))
        self.check_error("connection", None, 4, ((0, 3), (1, 2), (0, 3), (1, 2)))
        for missing in range(11):
            self.check_error("connection", None, 12, LINE[:missing] + LINE[missing + 1:])

    def test_two_faults_at_once(self):
        self.check_error("places", None, 0, [])
        self.check_error("places", None, "2", ((0, 0),) * 17)
        self.check_error("places", None, 13, ((1, 0),))
        self.check_error("places", None, True, ((0, 1),))
        self.check_error("passages", None, 2, ((1, 0),) * 17)
        self.check_error("passages", None, 2, ((0, 0),) * 17)
        self.check_error("passages", None, 2, [(1, 0)])
        self.check_error("passages", 0, 2, ((1, 0),))
        self.check_error("passages", 1, 3, ((0, 0), (0, 3)))

    def test_the_first_wrong_passage_is_reported(self):
        for first, second in itertools.combinations(range(16), 2):
            passages = [(0, 1)] * 16
            passages[first] = (1, 0)
            passages[second] = None
            self.check_error("passages", first, 2, tuple(passages))

    def test_all_small_networks(self):
        found = 0
        for places in (1, 2, 3):
            for many in range(3):
                for passages in itertools.product(itertools.product(range(4), repeat=2), repeat=many):
                    self.check_small(places, passages)
                    found += Network.is_valid(places, passages)
        self.assertEqual(found, 3 + 6 + 6)

    def check_small(self, places, passages):
        wrong = [k for k, (u, v) in enumerate(passages) if u > v or v >= places]
        groups = [{place} for place in range(places)]
        for u, v in passages:
            touched = [group for group in groups if u in group or v in group]
            groups = [group for group in groups if group not in touched] + [set().union(*touched)]
        if wrong:
            self.check_error("passages", wrong[0], places, passages)
        elif len(groups) > 1:
            self.check_error("connection", None, places, passages)
        else:
            self.check_valid(places, passages)

    def test_nothing_is_modified(self):
        for passages in ([[0, 1], [1, 0]], ([0, 1], [1, 0]), ((0, 1), [1, [0]])):
            before = copy.deepcopy(passages)
            self.caught(InvalidNetwork, Network, 2, passages)
            self.assertIs(Network.is_valid(2, passages), False)
            self.caught(InvalidNetwork, Network.joined, *passages)
            self.assertEqual(passages, before)

    def test_deep_values(self):
        for value in deep_values():
            self.check_error("places", None, value, value)
            self.check_error("passages", 0, 2, (value,))
            self.check_error("passages", 0, 2, ((value, value),))
            self.check_error("passages", 0, 2, ((0, value),))


class TestIsValid(NetworkTestCase):
    def test_off_an_object(self):
        network = Network(2, ((0, 1),))
        self.assertIs(network.is_valid(1, ()), True)
        self.assertIs(network.is_valid(2, ()), False)
        self.assertIs(network.is_valid(passages=((0, 1),), places=2), True)

    def test_it_answers_for_every_pair_of_values(self):
        values = odd_values() + odd_tuples() + [0, 1, 2, 13, (), ((0, 1),)]
        for places, passages in itertools.product(values, repeat=2):
            expected = isinstance(places, int) and not isinstance(places, bool)
            if expected and isinstance(passages, tuple) and len(passages) < 2:
                continue
            self.assertIs(Network.is_valid(places, passages), False)


class TestJoined(NetworkTestCase):
    def check_joined_error(self, part, index, *passages):
        error = self.caught(InvalidNetwork, Network.joined, *passages)
        self.assertEqual((error.part, error.index), (part, index))

    def test_without_arguments(self):
        network = Network.joined()
        self.assertEqual((network.places, network.passages), (1, ()))

    def test_the_number_of_places(self):
        for network in small_networks() + larger_networks():
            again = Network.joined(*network.passages)
            self.assertIs(type(again), Network)
            self.assertEqual((again.places, again.passages), (network.places, network.passages))

    def test_loops_at_place_0(self):
        self.assertEqual(Network.joined((0, 0), (0, 0)).places, 1)

    def test_off_an_object(self):
        network = Network(1, ()).joined((0, 1), (1, 2))
        self.assertEqual((network.places, network.passages), (3, ((0, 1), (1, 2))))

    def test_ends_of_11_and_12(self):
        self.assertEqual(Network.joined(*LINE).places, 12)
        self.assertEqual(Network.joined(*LINE, (11, 11)).places, 12)
        self.check_joined_error("passages", 11, *LINE, (11, 12))
        self.check_joined_error("passages", 11, *LINE, (12, 12))
        self.check_joined_error("passages", 0, (0, 12), *LINE)
        self.check_joined_error("passages", 0, (0, 10 ** 999))

    def test_numbers_of_passages(self):
        self.assertEqual(len(Network.joined(*[(0, 1)] * 16)), 16)
        self.check_joined_error("passages", None, *[(0, 1)] * 17)
        self.check_joined_error("passages", None, *[(1, 2)] * 17)

    def test_a_wrong_passage_comes_before_their_number(self):
        self.check_joined_error("passages", 16, *[(0, 1)] * 16, (1, 0))
        self.check_joined_error("passages", 20, *[(0, 1)] * 20, [0, 1])

    def test_the_connection(self):
        self.check_joined_error("connection", None, (0, 0), (1, 1))
        self.check_joined_error("connection", None, (1, 1))
        self.check_joined_error("connection", None, (0, 2))
        self.check_joined_error("connection", None, (0, 11))

    def test_the_first_wrong_passage_is_reported(self):
        self.check_joined_error("passages", 0, (1, 0), (5, 7))
        self.check_joined_error("passages", 1, (5, 7), None, [])

    def test_other_values(self):
        wrong = [value for value in not_passages() if value not in ((0, 3), (3, 3))]
        for value in wrong:
            self.check_joined_error("passages", 0, value)
            self.check_joined_error("passages", 1, (0, 1), value, value)


class TestReading(NetworkTestCase):
    def test_the_start(self):
        for network in small_networks() + larger_networks():
            many = len(network.passages)
            self.assertEqual(network.start, (0, tuple(range(many + 1))))
            self.assertIs(type(network.start), tuple)
            self.assertIs(type(network.start[1]), tuple)

    def test_the_start_of_the_smallest_network(self):
        self.assertEqual(Network(1, ()).start, (0, (0,)))

    def test_len(self):
        for network in small_networks() + larger_networks():
            self.assertEqual(len(network), len(network.passages))
        self.assertEqual(len(Network(1, ())), 0)

    def test_properties_cannot_be_assigned(self):
        network = Network(2, ((0, 1),))
        for name in ("places", "passages", "start", "bridges", "cells"):
            self.assertRaises(AttributeError, setattr, network, name, 1)

    def test_equal_networks(self):
        networks = small_networks() + larger_networks()
        keys = [(network.places, network.passages) for network in networks]
        for (left, key), (right, other) in itertools.product(list(zip(networks, keys))[::3], repeat=2):
            self.assertIs(left == right, key == other)
            self.assertIs(left != right, key != other)

    def test_equal_networks_are_different_objects(self):
        left = Network(2, ((0, 1), (0, 1)))
        right = Network.joined((0, 1), (0, 1))
        self.assertIsNot(left, right)
        self.assertTrue(left == right)
        self.assertFalse(left != right)

    def test_the_order_of_the_passages_counts(self):
        self.assertFalse(Network.joined((0, 0), (0, 1)) == Network.joined((0, 1), (0, 0)))
        self.assertTrue(Network.joined((0, 0), (0, 1)) != Network.joined((0, 1), (0, 0)))

    def test_other_values_are_not_equal(self):
        for network in (Network(1, ()), Network(2, ((0, 1),)), Network(12, LINE)):
            others = [value for value in odd_values() + odd_tuples() if not isinstance(value, Network)]
            for value in others + [network.places, network.passages, (network.places, network.passages), len(network)]:
                self.assertIs(network == value, False)
                self.assertIs(value == network, False)
                self.assertIs(network != value, True)
                self.assertIs(value != network, True)


if __name__ == "__main__":
    unittest.main()
