"""The parts of networks: what can be read of them, and what is wrong with the things at their seats."""

import itertools
import math
import random
import unittest

from handwalk.decisions import parts
from handwalk.networks import Network
from handwalk.parts import EvenPart, Part, RingPart, SpecialPart
from tests import oracle
from tests.samples import (
    QuickTestCase, greatest_networks, larger_networks, networks_of_five, random_state, renamed, small_networks,
    special_networks,
)

CLASSES = {"all": Part, "even": EvenPart, "ring": RingPart, "special": SpecialPart}
A = Network(2, ((0, 1), (0, 1)))
B = Network(2, ((0, 1), (1, 1)))


def ring(places):
    return tuple((k, k + 1) for k in range(places - 1)) + ((0, places - 1),)


def only_part(*passages):
    [part] = parts(Network.joined(*passages))
    return part


class PartTestCase(QuickTestCase):
    def check_parts(self, network):
        """Check everything that can be read of the parts."""
        described = oracle.described_parts(network)
        found = parts(network)
        self.assertIs(type(found), tuple)
        self.assertEqual([part.name for part in found], [part.name for part in described])
        for part, expected in zip(found, described):
            self.assertIs(type(part), CLASSES[expected.kind])
            self.assertEqual(part.KIND, expected.kind)
            self.assertEqual(part.cell, expected.cell)
            self.assertEqual(part.gate, expected.gate)
            self.assertEqual(part.seats, expected.seats)
            self.assertEqual(part.rings, expected.rings)
            self.assertIs(type(part.cell), tuple)
            self.assertIs(type(part.seats), tuple)
            if expected.kind == "ring":
                self.assertEqual(part.circle, expected.circle)
            if expected.kind == "special":
                self.assertEqual(part.marks, tuple(sorted(expected.marks.items())))
        return found, described

    def check_problem(self, part, described, things):
        problem = part.problem(things)
        if described.fits(things):
            self.assertIsNone(problem)
        elif described.strays(things):
            self.assertIs(type(problem), tuple)
            self.assertEqual((problem[0], len(problem)), ("astray", 2))
            self.assertIn(problem[1], described.strays(things))
        else:
            word, length = {"ring": ("ring", 4), "even": ("odd", 2), "special": ("ratio", 3)}[described.kind]
            self.assertIs(type(problem), tuple)
            self.assertEqual((problem[0], len(problem)), (word, length))
            if word == "ratio":
                self.assertEqual((type(problem[2]), len(problem[2]), len(set(problem[2]))), (tuple, 4, 4))
            self.assertTrue(described.is_right(things, problem))


class TestReading(PartTestCase):
    def test_the_classes(self):
        for kind, owner in CLASSES.items():
            self.assertEqual(owner.KIND, kind)
            self.assertIn("KIND", vars(owner))
            self.assertEqual(owner.__bases__, (object,) if owner is Part else (Part,))

    def test_small_networks(self):
        for network in small_networks() + networks_of_five():
            self.check_parts(network)

    def test_larger_networks(self):
        rng = random.Random(13)
        for network in larger_networks() + greatest_networks():
            self.check_parts(network)
            self.check_parts(renamed(network, rng))

    def test_special_networks(self):
        for network in special_networks():
            self.check_parts(network)

    def test_the_network_without_passages(self):
        self.assertEqual(parts(Network(1, ())), ())

    def test_networks_of_bridges_alone(self):
        for places in range(2, 13):
            self.assertEqual(parts(Network(places, tuple((k, k + 1) for k in range(places - 1)))), ())
        self.assertEqual(parts(Network(5, ((0, 4), (1, 4), (2, 4), (3, 4)))), ())

    def test_by_name(self):
        self.assertEqual([part.name for part in parts(network=B)], [1])

    def test_a_loop_alone(self):
        part = only_part((0, 0))
        self.assertEqual((part.KIND, part.name, part.cell, part.gate, part.seats), ("ring", 0, (0,), 1, (0, 1)))
        self.assertEqual((part.rings, part.circle, part.arrangements()), (1, (1, 0), 2))

    def test_a_loop_behind_a_bridge(self):
        [part] = parts(B)
        self.assertEqual((part.KIND, part.name, part.cell, part.gate, part.seats), ("ring", 1, (1,), 0, (0, 1)))
        self.assertEqual((part.rings, part.circle, part.arrangements()), (1, (0, 1), 2))

    def test_two_passages_between_two_places(self):
        [part] = parts(A)
        self.assertEqual((part.KIND, part.cell, part.gate, part.seats), ("ring", (0, 1), 2, (0, 1, 2)))
        self.assertEqual((part.rings, part.circle, part.arrangements()), (1, (2, 0, 1), 3))

    def test_several_loops_at_one_place(self):
        for many in range(2, 17):
            part = only_part(*[(0, 0)] * many)
            self.assertEqual((type(part), part.rings, part.cell), (Part, many, (0,)))
            self.assertEqual(part.arrangements(), math.factorial(many + 1))

    def test_several_passages_between_two_places(self):
        for many in range(3, 17):
            part = only_part(*[(0, 1)] * many)
            self.assertEqual((type(part), part.rings, part.cell), (EvenPart, many - 1, (0, 1)))
            self.assertEqual(part.arrangements(), math.factorial(many + 1) // 2)

    def test_a_loop_makes_an_even_part_one_of_the_kind_all(self):
        self.assertIs(type(only_part((0, 1), (0, 1), (0, 1))), EvenPart)
        self.assertIs(type(only_part((0, 1), (0, 1), (0, 1), (1, 1))), Part)
        self.assertIs(type(only_part((0, 1), (0, 1), (1, 1))), Part)

    def test_what_is_nearly_special(self):
        self.assertIs(type(only_part((0, 1), (1, 2), (2, 3), (0, 3), (0, 2))), SpecialPart)
        # Four places and five passages, but not five different pairs.
        self.assertIs(type(only_part((0, 1), (1, 2), (2, 3), (0, 3), (0, 1))), EvenPart)
        self.assertIs(type(only_part((0, 1), (1, 2), (2, 3), (0, 3), (2, 2))), Part)
        self.assertIs(type(only_part((0, 1), (1, 2), (0, 2), (2, 3), (2, 3))), Part)
        # One passage more, one fewer.
        self.assertIs(type(only_part((0, 1), (1, 2), (2, 3), (0, 3), (0, 2), (1, 3))), Part)
        self.assertIs(type(only_part((0, 1), (1, 2), (2, 3), (0, 3))), RingPart)
        self.assertIs(type(only_part((0, 1), (1, 2), (2, 3), (0, 3), (0, 2), (0, 2))), Part)
        self.assertIs(type(only_part((0, 2), (0, 3), (0, 4), (1, 2), (1, 3), (1, 4))), EvenPart)

    def test_long_rings_entered_at_any_place(self):
        rng = random.Random(23)
        for places in range(2, 13):
            part = only_part(*ring(places))
            self.assertEqual((type(part), part.rings, part.arrangements()), (RingPart, 1, places + 1))
            self.assertEqual(part.circle, (places, *range(places)))
        for places in range(2, 12):
            further = tuple((u + 1, v + 1) for u, v in ring(places))
            for entry in range(1, places + 1):
                network = Network(places + 1, tuple(rng.sample([*further, (0, entry)], places + 1)))
                [part], _ = self.check_parts(network)
                self.assertEqual(part.gate, part.circle[0])
                self.assertIn(0, network.passages[part.gate])

    def test_the_lesser_passage_at_the_entry_comes_first(self):
        self.assertEqual(only_part((0, 1), (1, 2), (0, 2)).circle, (3, 0, 1, 2))
        self.assertEqual(only_part((0, 2), (1, 2), (0, 1)).circle, (3, 0, 1, 2))
        self.assertEqual(only_part((1, 2), (0, 2), (0, 1)).circle, (3, 1, 0, 2))
        self.assertEqual(only_part((1, 2), (2, 3), (1, 3), (0, 3)).circle, (3, 1, 0, 2))

    def test_parts_behind_each_other(self):
        # A ring, a bridge, a place without a part, a bridge, two loops with a tail, a bridge, a ring of two.
        network = Network(7, ((5, 6), (0, 1), (3, 3), (1, 2), (0, 1), (2, 3), (3, 4), (3, 3), (3, 5), (5, 6)))
        found, _ = self.check_parts(network)
        self.assertEqual([(part.name, part.KIND, part.gate) for part in found],
                         [(0, "ring", 8), (1, "ring", 10), (2, "all", 5)])

    def test_another_network_in_between_changes_nothing(self):
        networks = larger_networks() + greatest_networks()
        before = [[(part.name, part.seats, part.KIND) for part in parts(network)] for network in networks]
        kept = [parts(network) for network in networks]
        for network, found, expected in zip(networks, kept, before):
            self.assertEqual([(part.name, part.seats, part.KIND) for part in found], expected)
            self.assertEqual([(part.name, part.seats, part.KIND) for part in parts(network)], expected)

    def test_properties_cannot_be_assigned(self):
        found = [only_part((0, 0)), only_part((0, 1), (1, 2), (2, 3), (0, 3), (0, 2)), only_part((0, 0), (0, 0))]
        for part in found:
            for name in ("name", "cell", "gate", "seats", "rings"):
                self.assertRaises(AttributeError, setattr, part, name, 1)
        self.assertRaises(AttributeError, setattr, found[0], "circle", 1)
        self.assertRaises(AttributeError, setattr, found[1], "marks", 1)


class TestMarks(PartTestCase):
    def test_an_entry_with_three_passages(self):
        # u is 0, w is 2, b is passage 0 to the middle place 1, and c is passage 3 to the middle place 3.
        part = only_part((0, 1), (1, 2), (2, 3), (0, 3), (0, 2))
        self.assertEqual(part.marks, ((0, 2), (1, 4), (2, 0), (3, "inf"), (4, 3), (5, 1)))

    def test_an_entry_with_two_passages(self):
        # b is passage 0 from the entry to u, which is 1; w is 3, and c is passage 1 to the middle place 2.
        part = only_part((0, 1), (1, 2), (2, 3), (0, 3), (1, 3))
        self.assertEqual(part.marks, ((0, 1), (1, "inf"), (2, 0), (3, 4), (4, 3), (5, 2)))

    def test_behind_a_bridge(self):
        part = only_part((1, 2), (0, 1), (2, 3), (3, 4), (1, 4), (1, 3))
        self.assertEqual(part.gate, 1)
        self.assertEqual(part.marks, ((0, 2), (1, 1), (2, 4), (3, 0), (4, "inf"), (5, 3)))

    def test_in_any_order_of_the_passages(self):
        for order in itertools.permutations(((0, 1), (1, 2), (2, 3), (0, 3), (0, 2))):
            self.check_parts(Network(4, order))
        for order in itertools.permutations(((0, 1), (1, 2), (2, 3), (0, 3), (1, 3))):
            self.check_parts(Network(4, order))

    def test_they_are_integers_and_inf(self):
        for network in special_networks():
            for part in parts(network):
                self.assertEqual(sorted(str(mark) for seat, mark in part.marks), ["0", "1", "2", "3", "4", "inf"])
                self.assertTrue(all(type(mark) in (int, str) for seat, mark in part.marks))
                self.assertEqual(tuple(seat for seat, mark in part.marks), part.seats)


class TestArrangements(PartTestCase):
    def test_against_a_list_of_all_states(self):
        for network in networks_of_five():
            walks = oracle.all_states(network)
            many = math.prod(part.arrangements() for part in parts(network))
            for place in range(network.places):
                self.assertEqual(sum(state[0] == place for state in walks), many)

    def test_of_large_parts(self):
        for network in larger_networks() + greatest_networks() + special_networks():
            for part in parts(network):
                all_of_them = math.factorial(len(part.seats))
                expected = {"ring": len(part.seats), "even": all_of_them // 2, "all": all_of_them, "special": 120}
                self.assertEqual(part.arrangements(), expected[part.KIND])


class TestProblem(PartTestCase):
    def test_all_arrangements_of_small_networks(self):
        for network in networks_of_five():
            if len(network.passages) <= 4:
                self.check_network(network, itertools.permutations(range(len(network.passages) + 1)))

    def test_many_arrangements_of_networks_with_five_passages(self):
        for network in networks_of_five()[::4]:
            orders = itertools.permutations(range(len(network.passages) + 1))
            self.check_network(network, itertools.islice(orders, 0, None, 7))

    def test_large_networks(self):
        rng = random.Random(22)
        for network in larger_networks() + greatest_networks() + special_networks()[::5]:
            orders = []
            for _ in range(12):
                state, _ = random_state(network, rng, 40)
                things = list(oracle.home(network, state))
                orders.append(tuple(things))
                left, right = rng.randrange(len(things)), rng.randrange(len(things))
                things[left], things[right] = things[right], things[left]
                orders.append(tuple(things))
            orders.append(tuple(rng.sample(orders[0], len(orders[0]))))
            self.check_network(network, orders)

    def check_network(self, network, orders):
        found = parts(network)
        described = oracle.described_parts(network)
        for things in orders:
            for part, expected in zip(found, described):
                self.check_problem(part, expected, things)

    def test_all_arrangements_of_a_special_part(self):
        for passages in (((0, 1), (1, 2), (2, 3), (0, 3), (0, 2)), ((0, 1), (1, 2), (2, 3), (0, 3), (1, 3))):
            network = Network(4, passages)
            [part], [described] = self.check_parts(network)
            kept = {oracle.home(network, state) for state in oracle.all_states(network)}
            self.assertEqual(len(kept), 120)
            for things in itertools.permutations(range(6)):
                problem = part.problem(things)
                self.assertIs(problem is None, things in kept)
                if problem is not None:
                    self.assertEqual((problem[0], problem[1]), ("ratio", part.name))
                    self.assertFalse(described.keeps(things, problem[2]))

    def test_things_of_other_parts_do_not_matter(self):
        network = Network(4, ((0, 1), (0, 1), (1, 2), (2, 3), (2, 3)))
        first, second = parts(network)
        self.assertEqual((first.seats, second.seats), ((0, 1, 5), (2, 3, 4)))
        self.assertIsNone(first.problem((0, 1, 2, 4, 3, 5)))
        self.assertIsNone(second.problem((1, 0, 2, 3, 4, 5)))
        self.assertEqual(second.problem((0, 1, 2, 4, 3, 5))[:2], ("ring", 3))
        self.assertEqual(first.problem((1, 0, 2, 3, 4, 5))[:2], ("ring", 0))

    def test_by_name(self):
        for part in (only_part((0, 0), (0, 0)), only_part(*[(0, 1)] * 3), *parts(A)):
            start = tuple(range(len(part.seats)))
            self.assertIsNone(part.problem(things=start))


class TestKeepsRatio(PartTestCase):
    def test_against_the_document(self):
        rng = random.Random(26)
        for network in special_networks()[::3]:
            [part] = parts(network)
            [described] = oracle.described_parts(network)
            for _ in range(3):
                moved = dict(zip(part.seats, rng.sample(part.seats, 6)))
                things = tuple(moved.get(k, k) for k in range(len(network.passages) + 1))
                for four in itertools.permutations(part.seats, 4):
                    self.assertIs(part.keeps_ratio(things, four), described.keeps(things, four))

    def test_with_inf_at_every_place_of_the_four(self):
        network = Network(4, ((0, 1), (1, 2), (2, 3), (0, 3), (0, 2)))
        [part] = parts(network)
        [described] = oracle.described_parts(network)
        [infinite] = [seat for seat, mark in part.marks if mark == "inf"]
        seen = set()
        for things in itertools.permutations(range(6)):
            for at in range(4):
                others = [seat for seat in part.seats if seat != infinite][(things[0] % 3):][:3]
                four = (*others[:at], infinite, *others[at:])
                kept = part.keeps_ratio(things, four)
                self.assertIs(kept, described.keeps(things, four))
                seen.add((at, four.index(infinite), kept, [things.index(x) for x in four].index(infinite)
                          if infinite in [things.index(x) for x in four] else None))
        for at in range(4):
            for kept in (True, False):
                for later in (0, 1, 2, 3, None):
                    self.assertIn((at, at, kept, later), seen)

    def test_every_reachable_arrangement_keeps_all_ratios(self):
        for network in special_networks()[::12]:
            [part] = parts(network)
            for state in list(oracle.all_states(network))[::9]:
                things = oracle.home(network, state)
                for four in itertools.permutations(part.seats, 4):
                    self.assertIs(part.keeps_ratio(things, four), True)

    def test_by_name(self):
        [part] = parts(Network(4, ((0, 1), (1, 2), (2, 3), (0, 3), (0, 2))))
        self.assertIs(part.keeps_ratio(four=(0, 1, 2, 3), things=(0, 1, 2, 3, 4, 5)), True)
        self.assertIs(part.keeps_ratio(four=(0, 1, 2, 3), things=(1, 0, 2, 3, 4, 5)), False)


if __name__ == "__main__":
    unittest.main()
