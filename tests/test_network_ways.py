"""Passages at places, far ends, ways, bridges and cells, checked against their definitions."""

import itertools
import unittest

from handwalk.errors import InvalidPassage, InvalidPlace
from handwalk.networks import Network
from tests.samples import QuickTestCase, larger_networks, odd_tuples, odd_values, small_networks


def other_end(network, passage, place):
    u, v = network.passages[passage]
    return {u: v, v: u}[place]


def walks(network, place, length):
    """Yield all walks of this length from the place, ascending, and their last places."""
    if length == 0:
        yield (), place
        return
    for passage, ends in enumerate(network.passages):
        if place in ends:
            for rest, last in walks(network, other_end(network, passage, place), length - 1):
                yield (passage, *rest), last


def ways_by_all_walks(network, place):
    """Return the dict of the least shortest walks to every place, found by trying all walks."""
    found = {}
    for length in itertools.count():
        shortest = {}
        for walk, last in walks(network, place, length):
            if last not in found:
                shortest[last] = min(walk, shortest.get(last, walk))
        found.update(shortest)
        if len(found) == network.places:
            return found


def joined_groups(places, passages):
    """Return the sets of places that are joined by the passages."""
    groups = [{place} for place in range(places)]
    for u, v in passages:
        touched = [group for group in groups if u in group or v in group]
        groups = [group for group in groups if group not in touched] + [set().union(*touched)]
    return groups


class TestEnds(QuickTestCase):
    def test_passages_at(self):
        for network in small_networks() + larger_networks():
            for place in range(network.places):
                expected = tuple(k for k, (u, v) in enumerate(network.passages) if place == u or place == v)
                self.assertEqual(network.passages_at(place), expected)
                self.assertEqual(network.passages_at(place=place), expected)
                self.assertIs(type(network.passages_at(place)), tuple)

    def test_passages_at_with_loops_and_several_passages(self):
        network = Network(3, ((0, 1), (1, 1), (0, 1), (1, 2), (0, 0), (1, 1)))
        self.assertEqual(network.passages_at(0), (0, 2, 4))
        self.assertEqual(network.passages_at(1), (0, 1, 2, 3, 5))
        self.assertEqual(network.passages_at(2), (3,))

    def test_a_place_without_passages(self):
        self.assertEqual(Network(1, ()).passages_at(0), ())

    def test_passages_at_for_other_values(self):
        for network in (Network(1, ()), Network(2, ((0, 1),)), larger_networks()[-1]):
            many = network.places
            for value in odd_values() + odd_tuples() + [many, many + 1, 12, 13, 10 ** 999, (0,)]:
                self.assertIs(self.caught(InvalidPlace, network.passages_at, value).value, value)
                self.assertIs(self.caught(InvalidPlace, network.passages_at, place=value).value, value)

    def test_far_end(self):
        for network in small_networks() + larger_networks():
            for passage, (u, v) in enumerate(network.passages):
                self.assertEqual(network.far_end(passage, u), v)
                self.assertEqual(network.far_end(passage, v), u)
                self.assertEqual(network.far_end(place=u, passage=passage), v)

    def test_far_end_of_a_loop(self):
        network = Network(3, ((0, 1), (1, 1), (1, 2), (2, 2)))
        self.assertEqual(network.far_end(1, 1), 1)
        self.assertEqual(network.far_end(3, 2), 2)

    def test_far_end_at_a_place_that_is_not_an_end(self):
        for network in larger_networks():
            for passage, ends in enumerate(network.passages):
                for place in [*range(-1, 14), 10 ** 999]:
                    if place not in ends:
                        self.assertIs(self.caught(InvalidPlace, network.far_end, passage, place).value, place)

    def test_far_end_for_other_places(self):
        network = Network(2, ((0, 1), (1, 1), (0, 0)))
        for value in odd_values() + odd_tuples() + [2, (0, 1), (1, 1)]:
            for passage in range(3):
                self.assertIs(self.caught(InvalidPlace, network.far_end, passage, value).value, value)
                self.assertIs(self.caught(InvalidPlace, network.far_end, place=value, passage=passage).value, value)

    def test_far_end_reports_the_passage_before_the_place(self):
        for network in (Network(1, ()), Network(2, ((0, 1), (1, 1), (0, 0))), larger_networks()[-1]):
            many = len(network)
            for value in odd_values() + odd_tuples() + [many, many + 1, 17, 10 ** 999]:
                for place in (0, 1, -1, None, True, [value], value):
                    self.assertIs(self.caught(InvalidPassage, network.far_end, value, place).value, value)

    def test_a_truth_value_is_neither_a_passage_nor_a_place(self):
        network = Network(2, ((0, 1), (0, 1)))
        self.assertIs(self.caught(InvalidPassage, network.far_end, True, 0).value, True)
        self.assertIs(self.caught(InvalidPlace, network.far_end, 0, False).value, False)
        self.assertIs(self.caught(InvalidPlace, network.far_end, 0, True).value, True)
        self.assertIs(self.caught(InvalidPlace, network.passages_at, False).value, False)
        self.assertIs(self.caught(InvalidPlace, network.way, 0, True).value, True)


class TestWay(QuickTestCase):
    def test_against_all_walks(self):
        for network in small_networks() + [network for network in larger_networks() if network.places < 8]:
            for place in range(network.places):
                expected = ways_by_all_walks(network, place)
                for goal in range(network.places):
                    self.assertEqual(network.way(place, goal), expected[goal])
                    self.assertIs(type(network.way(place, goal)), tuple)

    def test_against_all_walks_in_a_cube_and_a_long_ring(self):
        ring = Network(12, (*[(k, k + 1) for k in range(11)], (0, 11)))
        for network in (larger_networks()[10], ring):
            expected = ways_by_all_walks(network, 0)
            for goal in range(network.places):
                self.assertEqual(network.way(0, goal), expected[goal])

    def test_the_longest_way(self):
        line = Network(12, tuple((k, k + 1) for k in range(11)))
        self.assertEqual(line.way(0, 11), tuple(range(11)))
        self.assertEqual(line.way(11, 0), tuple(reversed(range(11))))

    def test_the_least_of_several_ways(self):
        self.assertEqual(Network(2, ((1, 1), (0, 1), (0, 1))).way(0, 1), (1,))
        network = Network(4, ((2, 3), (1, 3), (0, 2), (0, 1), (0, 1)))
        self.assertEqual(network.way(0, 3), (2, 0))
        self.assertEqual(network.way(3, 0), (0, 2))
        self.assertEqual(network.way(1, 2), (1, 0))

    def test_a_shorter_way_comes_before_a_lesser_one(self):
        self.assertEqual(Network(3, ((0, 1), (1, 2), (0, 2))).way(0, 2), (2,))

    def test_a_place_to_itself(self):
        for network in small_networks() + larger_networks():
            for place in range(network.places):
                self.assertEqual(network.way(place, place), ())

    def test_by_name(self):
        network = Network(3, ((0, 1), (1, 2)))
        self.assertEqual(network.way(place=0, goal=2), (0, 1))
        self.assertEqual(network.way(goal=0, place=2), (1, 0))

    def test_other_values(self):
        for network in (Network(1, ()), Network(2, ((0, 1),)), larger_networks()[-1]):
            many = network.places
            for value in odd_values() + odd_tuples() + [many, 12, 10 ** 999]:
                self.assertIs(self.caught(InvalidPlace, network.way, value, 0).value, value)
                self.assertIs(self.caught(InvalidPlace, network.way, 0, value).value, value)
                self.assertIs(self.caught(InvalidPlace, network.way, goal=0, place=value).value, value)
                self.assertIs(self.caught(InvalidPlace, network.way, goal=value, place=0).value, value)

    def test_the_place_is_reported_before_the_goal(self):
        network = Network(2, ((0, 1),))
        place, goal = [0], [0]
        self.assertIs(self.caught(InvalidPlace, network.way, place, goal).value, place)
        self.assertIs(self.caught(InvalidPlace, network.way, goal=goal, place=place).value, place)


class TestBridgesAndCells(QuickTestCase):
    def check(self, network):
        bridges = []
        for passage in range(len(network.passages)):
            others = network.passages[:passage] + network.passages[passage + 1:]
            if len(joined_groups(network.places, others)) > 1:
                bridges.append(passage)
        inner = [ends for passage, ends in enumerate(network.passages) if passage not in bridges]
        cells = sorted(tuple(sorted(group)) for group in joined_groups(network.places, inner))
        self.assertEqual(network.bridges, tuple(bridges))
        self.assertEqual(network.cells, tuple(cells))

    def test_small_networks(self):
        for network in small_networks():
            self.check(network)

    def test_larger_networks(self):
        for network in larger_networks():
            self.check(network)

    def test_four_places(self):
        pairs = [(u, v) for u in range(4) for v in range(u, 4)]
        for passages in itertools.combinations_with_replacement(pairs, 4):
            if Network.is_valid(4, passages):
                self.check(Network(4, passages))
                self.check(Network(4, passages[::-1]))

    def test_one_place_without_passages(self):
        network = Network(1, ())
        self.assertEqual((network.bridges, network.cells), ((), ((0,),)))

    def test_loops_are_no_bridges(self):
        network = Network(1, ((0, 0),))
        self.assertEqual((network.bridges, network.cells), ((), ((0,),)))
        network = Network(2, ((0, 0), (0, 1), (1, 1)))
        self.assertEqual((network.bridges, network.cells), ((1,), ((0,), (1,))))

    def test_several_passages_are_no_bridges(self):
        network = Network(3, ((0, 1), (1, 2), (0, 1)))
        self.assertEqual((network.bridges, network.cells), ((1,), ((0, 1), (2,))))

    def test_a_line_has_only_bridges(self):
        network = Network(12, tuple((k, k + 1) for k in range(11)))
        self.assertEqual(network.bridges, tuple(range(11)))
        self.assertEqual(network.cells, tuple((k,) for k in range(12)))

    def test_a_ring_has_no_bridge(self):
        network = Network(12, (*[(k, k + 1) for k in range(11)], (0, 11)))
        self.assertEqual((network.bridges, network.cells), ((), (tuple(range(12)),)))

    def test_two_rings_at_one_place_are_one_cell(self):
        network = Network(5, ((0, 3), (3, 4), (0, 4), (1, 4), (2, 4), (1, 2)))
        self.assertEqual((network.bridges, network.cells), ((), ((0, 1, 2, 3, 4),)))

    def test_cells_whose_places_are_mixed(self):
        network = Network(6, ((0, 4), (2, 4), (0, 2), (4, 5), (3, 5), (1, 3), (1, 5)))
        self.assertEqual((network.bridges, network.cells), ((3,), ((0, 2, 4), (1, 3, 5))))

    def test_they_consist_of_tuples(self):
        network = Network(6, ((0, 4), (2, 4), (0, 2), (4, 5), (3, 5), (1, 3), (1, 5)))
        for value in (network.bridges, network.cells, *network.cells):
            self.assertIs(type(value), tuple)


if __name__ == "__main__":
    unittest.main()
