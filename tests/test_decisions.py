"""Which states can be reached, and the answers about them."""

import itertools
import random
import time
import unittest

from handwalk.decisions import check_decision, decide, is_reachable, parts
from handwalk.errors import InvalidState
from handwalk.moves import after
from handwalk.networks import Network
from tests import oracle
from tests.samples import (
    QuickTestCase, deep_values, greatest_networks, larger_networks, networks_of_five, odd_tuples, odd_values,
    random_state, renamed, special_networks,
)

A = Network(2, ((0, 1), (0, 1)))
B = Network(2, ((0, 1), (1, 1)))

LENGTHS = {"walk": 2, "astray": 2, "ring": 4, "odd": 2, "ratio": 3}


class DecisionTestCase(QuickTestCase):
    def check_walk(self, network, state, answer):
        self.assertEqual((type(answer), len(answer), answer[0]), (tuple, 2, "walk"))
        walk = answer[1]
        self.assertIs(type(walk), tuple)
        place_and_things = oracle.start_of(network)
        for step in walk:
            place_and_things = oracle.step_from(network, place_and_things, step)
            self.assertIsNotNone(place_and_things)
        self.assertEqual(place_and_things, state)
        self.assertFalse([step for step, later in zip(walk, walk[1:]) if step == later])

    def check_no(self, network, described, state, answer):
        self.assertIs(type(answer), tuple)
        self.assertNotEqual(answer[0], "walk")
        self.assertEqual(len(answer), LENGTHS[answer[0]])
        if answer[0] == "ratio":
            self.assertEqual((type(answer[2]), len(answer[2]), len(set(answer[2]))), (tuple, 4, 4))
        self.assertTrue(oracle.is_right(network, described, state, answer))

    def check_decide(self, network, described, state, expected):
        """Check decide, and that check_decision confirms the answer."""
        answer = decide(network, state)
        self.assertIs(answer[0] == "walk", expected)
        if expected:
            self.check_walk(network, state, answer)
        else:
            self.check_no(network, described, state, answer)
        self.assertIs(check_decision(network, state, answer), answer[0])


def all_arrangements(network):
    return itertools.permutations(range(len(network.passages) + 1))


class TestSmallNetworks(DecisionTestCase):
    def test_is_reachable_for_all_states(self):
        for network in networks_of_five():
            if len(network.passages) <= 4:
                walks = oracle.all_states(network)
                for place, things in itertools.product(range(network.places), all_arrangements(network)):
                    state = (place, things)
                    self.assertIs(is_reachable(network, state), state in walks)

    def test_is_reachable_with_five_passages(self):
        for number, network in enumerate(networks_of_five()):
            if len(network.passages) == 5:
                walks = oracle.all_states(network)
                place = number % network.places
                for things in all_arrangements(network):
                    self.assertIs(is_reachable(network, (place, things)), (place, things) in walks)
                for state in list(walks)[::3]:
                    self.assertIs(is_reachable(network, state), True)

    def test_decide_for_all_states(self):
        for network in networks_of_five():
            if len(network.passages) <= 3:
                walks = oracle.all_states(network)
                described = oracle.described_parts(network)
                for place, things in itertools.product(range(network.places), all_arrangements(network)):
                    self.check_decide(network, described, (place, things), (place, things) in walks)

    def test_decide_for_many_states_with_four_and_five_passages(self):
        for number, network in enumerate(networks_of_five()):
            if len(network.passages) >= 4:
                walks = oracle.all_states(network)
                described = oracle.described_parts(network)
                for state in sorted(walks)[number % 13::13]:
                    self.check_decide(network, described, state, True)
                for things in itertools.islice(all_arrangements(network), number % 17, None, 17):
                    state = (number % network.places, things)
                    self.check_decide(network, described, state, state in walks)

    def test_decide_for_all_states_of_some_networks(self):
        for network in (
            Network(4, ((0, 1), (1, 2), (2, 3), (0, 3), (0, 2))), Network(4, ((0, 1), (1, 2), (2, 3), (0, 3), (1, 3))),
            Network(2, ((0, 1), (0, 1), (0, 1))), Network(3, ((1, 2), (0, 1), (1, 2), (1, 2))),
            Network(3, ((1, 1), (0, 1), (1, 2), (2, 2))), Network(1, ((0, 0),) * 4),
        ):
            walks = oracle.all_states(network)
            described = oracle.described_parts(network)
            for place, things in itertools.product(range(network.places), all_arrangements(network)):
                self.check_decide(network, described, (place, things), (place, things) in walks)

    def test_the_start(self):
        for network in networks_of_five() + larger_networks() + greatest_networks():
            self.assertEqual(decide(network, network.start), ("walk", ()))
            self.assertIs(is_reachable(network, network.start), True)

    def test_the_network_without_passages(self):
        network = Network(1, ())
        self.assertEqual(decide(network, (0, (0,))), ("walk", ()))
        self.assertIs(is_reachable(network, (0, (0,))), True)
        self.assertEqual(check_decision(network, (0, (0,)), ("walk", ())), "walk")

    def test_networks_of_bridges(self):
        network = Network(3, ((0, 1), (1, 2)))
        walks = oracle.all_states(network)
        self.assertEqual(len(walks), 3)
        for place, things in itertools.product(range(3), all_arrangements(network)):
            answer = decide(network, (place, things))
            self.assertEqual(answer[0], "walk" if (place, things) in walks else "astray")


class TestKinds(DecisionTestCase):
    def test_every_kind_of_answer(self):
        special = Network(4, ((0, 1), (1, 2), (2, 3), (0, 3), (0, 2)))
        even = Network(2, ((0, 1), (0, 1), (0, 1)))
        for network, state, word in (
            (A, (0, (2, 0, 1)), "walk"), (A, (0, (1, 0, 2)), "ring"), (B, (0, (2, 1, 0)), "astray"),
            (even, (0, (1, 0, 2, 3)), "odd"), (even, (0, (1, 2, 0, 3)), "walk"), (even, (1, (1, 2, 0, 3)), "odd"),
            (special, (0, (1, 0, 2, 3, 4, 5)), "ratio"),
        ):
            self.assertEqual(decide(network, state)[0], word)
            self.check_decide(network, oracle.described_parts(network), state, word == "walk")

    def test_a_thing_astray_comes_before_other_reasons(self):
        # The things of the ring and a thing of the loop are exchanged: no answer about the ring may be given.
        network = Network(4, ((0, 1), (0, 1), (1, 2), (2, 2), (2, 3)))
        described = oracle.described_parts(network)
        for things in all_arrangements(network):
            answer = decide(network, (0, things))
            if answer[0] == "ring":
                part = next(part for part in described if part.name == answer[1])
                self.assertEqual(part.strays(things), [])

    def test_things_of_bridges_are_astray(self):
        network = Network(4, ((0, 1), (1, 2), (2, 3), (3, 3)))
        self.assertEqual(decide(network, (0, (1, 0, 2, 3, 4)))[0], "astray")
        self.assertIn(decide(network, (0, (1, 0, 2, 3, 4)))[1], (0, 1))
        self.assertEqual(decide(network, (0, (0, 1, 3, 2, 4)))[0], "walk")
        self.assertIn(decide(network, (0, (4, 1, 2, 3, 0))), [("astray", 0), ("astray", 4)])

    def test_by_name(self):
        self.assertIs(is_reachable(state=A.start, network=A), True)
        self.assertEqual(decide(state=A.start, network=A), ("walk", ()))
        self.assertEqual(check_decision(answer=("walk", ()), state=A.start, network=A), "walk")

    def test_another_network_in_between_changes_nothing(self):
        rng = random.Random(1)
        networks = larger_networks() + greatest_networks()[:4]
        states = [random_state(network, rng, 50)[0] for network in networks]
        answers = [decide(network, state) for network, state in zip(networks, states)]
        for network, state, answer in zip(networks[::-1], states[::-1], answers[::-1]):
            self.assertEqual(decide(network, state), answer)


class TestGreatNetworks(DecisionTestCase):
    def check_network(self, network, rng, many):
        described = oracle.described_parts(network)
        for _ in range(many):
            state, _ = random_state(network, rng, rng.randrange(1, 300))
            self.check_decide(network, described, state, True)
            self.assertIs(is_reachable(network, state), True)
            place, things = state
            left, right = rng.randrange(len(things)), rng.randrange(len(things))
            swap = {left: right, right: left}
            changed = (place, tuple(things[swap.get(k, k)] for k in range(len(things))))
            mixed = (place, tuple(rng.sample(things, len(things))))
            for other in (changed, mixed):
                expected = oracle.is_reachable(network, described, oracle.home(network, other))
                self.assertIs(is_reachable(network, other), expected)
                self.check_decide(network, described, other, expected)

    def test_many_kinds_of_networks(self):
        rng = random.Random(24)
        for network in greatest_networks():
            self.check_network(network, rng, 2)
            self.check_network(renamed(network, rng), rng, 2)

    def test_larger_networks(self):
        rng = random.Random(21)
        for network in larger_networks():
            self.check_network(network, rng, 4)

    def test_special_networks(self):
        rng = random.Random(26)
        for network in special_networks():
            self.check_network(network, rng, 2)

    def test_networks_by_chance(self):
        rng = random.Random(16)
        for _ in range(40):
            places = rng.randrange(1, 13)
            passages = [(rng.randrange(place), place) for place in range(1, places)]
            while len(passages) < 16:
                passages.append(tuple(sorted((rng.randrange(places), rng.randrange(places)))))
            self.check_network(Network(places, tuple(rng.sample(passages, 16))), rng, 2)

    def test_all_reasons_at_once(self):
        # Ten places and sixteen passages with one part of each kind, and each part is disturbed alone.
        network = greatest_networks()[2]
        described = oracle.described_parts(network)
        self.assertEqual(sorted(part.KIND for part in parts(network)), ["all", "even", "ring", "special"])
        for part in described:
            things = list(range(17))
            first, second = part.seats[:2]
            things[first], things[second] = second, first
            answer = decide(network, (0, tuple(things)))
            expected = {"all": "walk", "ring": "walk", "even": "odd", "special": "ratio"}[part.kind]
            self.assertEqual(answer[0], expected)
            self.check_decide(network, described, (0, tuple(things)), expected == "walk")

    def test_a_ring_among_other_parts(self):
        network = greatest_networks()[0]
        [ring] = [part for part in parts(network) if part.KIND == "ring"]
        described = oracle.described_parts(network)
        moved = dict(zip(ring.circle, ring.circle[1:] + ring.circle[:1]))
        turned = (0, tuple(moved.get(k, k) for k in range(17)))
        self.check_decide(network, described, turned, True)
        x, y = ring.circle[1:3]
        broken = (0, tuple({x: y, y: x}.get(k, k) for k in range(17)))
        self.check_decide(network, described, broken, False)
        self.assertEqual(decide(network, broken)[:2], ("ring", ring.name))

    def test_the_answer_comes_quickly(self):
        rng = random.Random(2)
        for network in greatest_networks():
            for _ in range(2):
                state, _ = random_state(network, rng, 200)
                begin = time.perf_counter()
                answer = decide(network, state)
                middle = time.perf_counter()
                self.assertEqual(check_decision(network, state, answer), "walk")
                self.assertIs(is_reachable(network, state), True)
                self.assertLess(middle - begin, 2)
                self.assertLess(time.perf_counter() - middle, 1)


class TestWrongStates(QuickTestCase):
    def check_part(self, part, network, state):
        for call in (is_reachable, decide):
            self.assertEqual(self.caught(InvalidState, call, network, state).part, part)
            self.assertEqual(self.caught(InvalidState, call, state=state, network=network).part, part)
        for answer in (("walk", ()), (), None, ("walk", None), [state], ("astray", 0, 0), *deep_values()[:3]):
            self.assertEqual(self.caught(InvalidState, check_decision, network, state, answer).part, part)

    def test_each_part(self):
        for network in (Network(1, ()), A, greatest_networks()[0]):
            things = network.start[1]
            for value in odd_values() + odd_tuples():
                self.check_part("place", network, (value, things))
                self.check_part("place", network, (value, value))
                self.check_part("form", network, (0, things, value))
                self.check_part("form", network, [value, things])
                if type(value) is not tuple or len(value) != 2:
                    self.check_part("form", network, value)
            for value in (list(things), things + (0,), things[:-1], things[:-1] + (-1,), things + (len(things),)):
                self.check_part("arrangement", network, (0, value))

    def test_truth_values(self):
        self.check_part("place", A, (True, (0, 1, 2)))
        self.check_part("arrangement", A, (0, (0, True, 2)))
        self.check_part("arrangement", A, (0, (False, 1, 2)))

    def test_deep_values(self):
        for value in deep_values():
            self.check_part("arrangement", A, (0, value))
            self.check_part("arrangement", A, (0, (value,) * 3))


class TestWalks(QuickTestCase):
    def test_decide_returns_new_walks_each_time(self):
        state = after(A, A.start, 0, 1, 0)
        self.assertEqual(decide(A, state), decide(A, state))

    def test_a_state_is_not_modified(self):
        state = [0, [0, 1, 2]]
        self.caught(InvalidState, decide, A, state)
        self.caught(InvalidState, is_reachable, A, (0, state[1]))
        self.caught(InvalidState, check_decision, A, state, ["walk"])
        self.assertEqual(state, [0, [0, 1, 2]])


if __name__ == "__main__":
    unittest.main()
