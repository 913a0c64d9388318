"""Spots of single things, and the walks that bring them there."""

import random
import unittest

from handwalk.bringing import bring, reachable_spots
from handwalk.errors import InvalidPlace, InvalidPosition, InvalidThing
from handwalk.moves import after
from handwalk.networks import Network
from tests import oracle
from tests.samples import (
    QuickTestCase, deep_values, greatest_networks, larger_networks, networks_of_five, odd_tuples, odd_values, renamed,
    small_networks, special_networks,
)

A = Network(2, ((0, 1), (0, 1)))
B = Network(2, ((0, 1), (1, 1)))


def of_greatest_size():
    """Return networks with twelve places and sixteen passages."""
    rng = random.Random(40)
    found = [network for network in larger_networks() if (network.places, len(network.passages)) == (12, 16)]
    found += [renamed(network, rng) for network in greatest_networks() if len(network.passages) == 16][:4]
    while len(found) < 12:
        pairs = [(rng.randrange(place), place) for place in range(1, 12)]
        pairs += [tuple(sorted((rng.randrange(12), rng.randrange(12)))) for _ in range(5)]
        found.append(renamed(Network(12, tuple(pairs)), rng))
    return found


class SpotTestCase(QuickTestCase):
    def check(self, network, thing, walks, every=1):
        """Check the answers about the thing, for some of the places, against the least shortest walks to all spots."""
        self.assertEqual(reachable_spots(network, thing), tuple(sorted(walks)))
        for position in range(len(network.passages) + 1):
            for place in range((thing + position) % every, network.places, every):
                self.assertEqual(bring(network, thing, position, place=place), walks.get((place, position)))
            fitting = [walk for spot, walk in walks.items() if spot[1] == position]
            self.assertEqual(bring(network, thing, position), oracle.least_of(fitting))
            self.assertEqual(bring(network, thing, position, place=None), oracle.least_of(fitting))


class TestAgainstAllStates(SpotTestCase):
    def check_network(self, network):
        walks = oracle.all_states(network)
        for thing in range(len(network.passages) + 1):
            spots = {}
            for (place, things), walk in walks.items():
                spots.setdefault((place, things.index(thing)), []).append(walk)
            self.check(network, thing, {spot: oracle.least_of(found) for spot, found in spots.items()})

    def test_small_networks(self):
        for network in small_networks():
            self.check_network(network)

    def test_networks_of_five(self):
        for network in networks_of_five()[::2]:
            self.check_network(network)

    def test_special_networks(self):
        for network in special_networks()[::11]:
            self.check_network(network)


class TestAgainstOneThingAlone(SpotTestCase):
    def test_networks_of_the_greatest_size(self):
        for network in of_greatest_size():
            self.assertEqual(len(network), 16)
            for thing in range(17):
                self.check(network, thing, oracle.all_spots(network, (0, thing)), 5)

    def test_other_networks(self):
        for network in larger_networks() + greatest_networks():
            for thing in range(0, len(network.passages) + 1, 5):
                self.check(network, thing, oracle.all_spots(network, (0, thing)), 4)

    def test_the_walks_do_what_is_asked(self):
        for network in of_greatest_size():
            for thing in range(17):
                for place, position in reachable_spots(network, thing)[thing % 7::7]:
                    walk = bring(network, thing, position, place=place)
                    reached, things = after(network, network.start, *walk)
                    self.assertEqual((reached, things[position]), (place, thing))


class TestBring(QuickTestCase):
    def test_known_answers(self):
        ring = Network(3, ((0, 1), (1, 2), (0, 2)))
        for network, thing, position, place, walk in (
            (Network(1, ()), 0, 0, None, ()), (Network(1, ()), 0, 0, 0, ()),
            (A, 2, 2, None, ()), (A, 2, 0, None, (0,)), (A, 2, 1, None, (1,)), (A, 2, 2, 1, (0, 1, 0)),
            (A, 0, 2, None, (0,)), (A, 1, 2, None, (1,)), (A, 1, 2, 0, (0, 1)), (A, 0, 1, None, (0, 1)),
            (B, 0, 0, None, ()), (B, 0, 0, 1, None), (B, 0, 2, 1, (0,)), (B, 0, 2, 0, None), (B, 1, 0, None, (0, 1, 0)),
            (B, 2, 2, 0, ()), (B, 2, 2, 1, None), (B, 2, 1, None, None), (B, 1, 1, 1, (0,)), (B, 1, 2, None, (0, 1)),
            (ring, 3, 1, None, (0, 1, 2, 0, 1)), (ring, 3, 0, None, (0,)), (ring, 3, 2, None, (2,)),
            (ring, 1, 3, None, (0, 1)), (ring, 1, 3, 0, (0, 1, 2, 0, 1, 2)), (ring, 0, 2, 1, (2, 1, 0, 2, 1)),
        ):
            with self.subTest(passages=network.passages, thing=thing, position=position, place=place):
                self.assertEqual(bring(network, thing, position, place=place), walk)

    def test_kinds_of_values(self):
        spots = reachable_spots(B, 1)
        self.assertEqual({type(item) for spot in spots for item in spot}, {int})
        self.assertEqual({type(spot) for spot in (spots, *spots)}, {tuple})
        self.assertIs(type(bring(B, 1, 0)), tuple)
        self.assertIs(type(bring(B, 1, 1)), tuple)

    def test_no_place_is_not_place_0(self):
        self.assertEqual(bring(A, 2, 0), (0,))
        self.assertEqual(bring(A, 2, 0, place=None), (0,))
        self.assertNotEqual(bring(A, 2, 0, place=0), (0,))

    def test_by_name(self):
        self.assertEqual(bring(place=1, position=2, thing=0, network=B), (0,))
        self.assertEqual(bring(position=0, network=B, thing=1), (0, 1, 0))
        self.assertEqual(reachable_spots(thing=1, network=B), ((0, 0), (0, 1), (1, 1), (1, 2)))

    def test_the_place_is_passed_by_name_only(self):
        self.assertRaises(TypeError, bring, B, 1, 0, 1)
        self.assertRaises(TypeError, bring, B, 1, 0, None)


def not_numbers(count):
    """Return values that are no integers from 0 to count - 1."""
    return odd_values() + odd_tuples() + [count, count + 1, 10 ** 999, (0,), [0]]


class TestErrors(QuickTestCase):
    def test_wrong_things(self):
        for network in (Network(1, ()), A, larger_networks()[-1]):
            count = len(network.passages) + 1
            for value in not_numbers(count):
                self.assertIs(self.caught(InvalidThing, reachable_spots, network, value).value, value)
                self.assertIs(self.caught(InvalidThing, bring, network, value, 0).value, value)

    def test_wrong_positions(self):
        for network in (Network(1, ()), A, larger_networks()[-1]):
            count = len(network.passages) + 1
            for value in not_numbers(count):
                self.assertIs(self.caught(InvalidPosition, bring, network, 0, value).value, value)
                self.assertIs(self.caught(InvalidPosition, bring, network, count - 1, value, place=0).value, value)

    def test_wrong_places(self):
        for network in (Network(1, ()), A, larger_networks()[-1]):
            for value in not_numbers(network.places):
                if value is not None:
                    self.assertIs(self.caught(InvalidPlace, bring, network, 0, 0, place=value).value, value)

    def test_the_place_has_its_own_limit(self):
        line = Network(3, ((0, 1), (1, 2)))
        loops = Network(1, ((0, 0), (0, 0)))
        for network, value in ((line, 3), (loops, 1), (loops, 2), (A, 2)):
            self.assertEqual(self.caught(InvalidPlace, bring, network, 2, 2, place=value).value, value)
        self.assertEqual(bring(loops, 2, 2, place=0), ())
        tree = Network(3, ((0, 2), (1, 2)))
        self.assertEqual(bring(tree, 2, 0, place=2), (0,))
        self.assertEqual(self.caught(InvalidThing, bring, tree, 3, 0).value, 3)
        self.assertEqual(self.caught(InvalidPosition, bring, tree, 0, 3).value, 3)

    def test_the_order_of_the_errors(self):
        values = not_numbers(17)
        for network in (Network(1, ()), A):
            for thing, position, place in zip(values, values[3:] + values[:3], values[7:] + values[:7]):
                for named in ({}, {"place": place}, {"place": 0}):
                    error = self.caught(InvalidThing, bring, network, thing, position, **named)
                    self.assertIs(error.value, thing)
                    error = self.caught(InvalidThing, bring, network, thing, 0, **named)
                    self.assertIs(error.value, thing)
                    error = self.caught(InvalidPosition, bring, network, 0, position, **named)
                    self.assertIs(error.value, position)

    def test_truth_values(self):
        for value in (True, False):
            self.assertIs(self.caught(InvalidThing, reachable_spots, A, value).value, value)
            self.assertIs(self.caught(InvalidThing, bring, A, value, 0).value, value)
            self.assertIs(self.caught(InvalidPosition, bring, A, 0, value).value, value)
            self.assertIs(self.caught(InvalidPlace, bring, A, 0, 0, place=value).value, value)

    def test_deep_values(self):
        for value in deep_values():
            self.assertIs(self.caught(InvalidThing, reachable_spots, A, value).value, value)
            self.assertIs(self.caught(InvalidThing, bring, A, value, value, place=value).value, value)
            self.assertIs(self.caught(InvalidPosition, bring, A, 0, value, place=value).value, value)
            self.assertIs(self.caught(InvalidPlace, bring, A, 0, 0, place=value).value, value)


if __name__ == "__main__":
    unittest.main()
