"""States, traces, walks and their effects."""

import itertools
import random
import unittest

from handwalk.errors import InvalidPlace, InvalidState, InvalidWalk
from handwalk.moves import after, back, check_state, effect, reduced, trace
from handwalk.networks import Network
from handwalk.permutations import compose, inverse, is_even
from tests import oracle
from tests.samples import (
    QuickTestCase, deep_values, greatest_networks, larger_networks, nested, odd_tuples, odd_values, random_state,
    small_networks,
)

A = Network(2, ((0, 1), (0, 1)))
B = Network(2, ((0, 1), (1, 1)))

STATE_CALLS = {
    "check_state": check_state,
    "trace": lambda network, state, *steps: list(trace(network, state, *steps)),
    "trace by next": lambda network, state, *steps: next(trace(network, state, *steps)),
    "after": after,
}


def not_pairs():
    """Return values that are no pairs."""
    wrong = [value for value in odd_values() if not isinstance(value, tuple) or len(value) != 2]
    return wrong + [0, 1, (), (0,), ((0, 1, 2),), (0, (0, 1, 2), 0), [0, (0, 1, 2)], {0: (0, 1, 2)}, nested(100)]


def not_places(network):
    return odd_values() + odd_tuples() + [network.places, network.places + 1, 12, 10 ** 999, (0,), [0]]


def not_arrangements(network):
    """Return values that are no arrangements of the network."""
    right = list(range(len(network.passages) + 1))
    wrong = [right, right[:-1], tuple(right[:-1]), tuple(right + [len(right)]), tuple(right + [0])]
    wrong += [tuple(right[:-1] + [right[-1] + 1]), tuple([-1] + right[1:]), tuple([True] + right[1:])]
    wrong += [tuple([str(thing) for thing in right]), tuple([[thing] for thing in right]), tuple(right[:-1] + [None])]
    if len(right) > 1:
        wrong += [tuple([right[1]] + right[1:]), tuple([False] + right[1:]), tuple([right[0], True] + right[2:])]
        wrong += [tuple(right[:-1] + [0]), (0,), tuple(right[1:])]
    others = [value for value in odd_values() + odd_tuples() if not oracle_arrangement(value, right)]
    return wrong + others + [(), 0, 1, 10 ** 999]


def oracle_arrangement(value, right):
    if type(value) is not tuple or any(type(thing) is not int for thing in value):
        return False
    return sorted(value) == right


class StateTestCase(QuickTestCase):
    def check_part(self, part, network, state):
        for name, call in STATE_CALLS.items():
            with self.subTest(name):
                error = self.caught(InvalidState, call, network, state)
                self.assertEqual(error.part, part)


class TestCheckState(StateTestCase):
    def test_states(self):
        for network in small_networks() + larger_networks():
            things = list(range(len(network.passages) + 1))
            for place in range(network.places):
                for order in (things, things[::-1], things[1:] + things[:1]):
                    self.assertIsNone(check_state(network, (place, tuple(order))))
        self.assertIsNone(check_state(state=(1, (2, 1, 0)), network=A))

    def test_the_form(self):
        for network in (Network(1, ()), A, larger_networks()[-1]):
            for state in not_pairs():
                self.check_part("form", network, state)

    def test_the_place(self):
        for network in (Network(1, ()), A, larger_networks()[-1]):
            for place in not_places(network):
                self.check_part("place", network, (place, network.start[1]))

    def test_the_arrangement(self):
        for network in (Network(1, ()), A, B, larger_networks()[-1]):
            for things in not_arrangements(network):
                self.check_part("arrangement", network, (0, things))
                self.check_part("arrangement", network, (network.places - 1, things))

    def test_two_wrong_parts(self):
        for network in (Network(1, ()), A, larger_networks()[-1]):
            for place, things in zip(not_places(network), itertools.cycle(not_arrangements(network))):
                self.check_part("place", network, (place, things))
                self.check_part("form", network, [place, things])
                self.check_part("form", network, (place, things, 0))
            self.check_part("form", network, [0, [0, 1, 2]])
            self.check_part("place", network, (True, [0, 1, 2]))
            self.check_part("form", network, [True, (0, 1, 2)])

    def test_lists_and_truth_values(self):
        self.check_part("form", A, [0, (0, 1, 2)])
        self.check_part("arrangement", A, (0, [0, 1, 2]))
        self.check_part("place", A, (False, (0, 1, 2)))
        self.check_part("place", A, (True, (0, 1, 2)))
        self.check_part("arrangement", A, (0, (False, 1, 2)))
        self.check_part("arrangement", A, (1, (2, True, 0)))
        self.check_part("arrangement", Network(1, ()), (0, (False,)))

    def test_the_state_of_another_network(self):
        self.check_part("arrangement", A, (0, (0, 1)))
        self.check_part("arrangement", A, (0, (0, 1, 2, 3)))
        self.check_part("place", A, (2, (0, 1, 2)))
        self.check_part("arrangement", A, (0, (0, 1, 1)))
        self.check_part("place", Network(1, ()), (1, (0, 1)))

    def test_an_arrangement_with_very_many_things(self):
        self.check_part("arrangement", A, (0, tuple(range(100_000))))

    def test_states_are_checked_before_steps(self):
        for state, part in (((0, (0, 1)), "arrangement"), ((2, (0, 1, 2)), "place"), ([], "form")):
            for steps in ((), (0,), (5,), (None, True)):
                for call in (after, lambda *given: next(trace(*given))):
                    self.assertEqual(self.caught(InvalidState, call, A, state, *steps).part, part)

    def test_nothing_is_modified(self):
        state = [0, [0, 1, 2]]
        self.check_part("form", A, state)
        self.check_part("arrangement", A, (0, state))
        self.assertEqual(state, [0, [0, 1, 2]])

    def test_deep_values(self):
        for value in deep_values():
            self.check_part("place", A, (value, value))
            self.check_part("arrangement", A, (0, value))
            self.check_part("arrangement", A, (0, (value, value, value)))
            self.check_part("form", A, (value, value, value))


class TestTrace(QuickTestCase):
    def test_against_the_definition(self):
        rng = random.Random(12)
        for network in small_networks() + larger_networks():
            state, _ = random_state(network, rng, 5)
            first = state
            _, walk = random_state(network, rng, 30)
            if state[0] != 0:
                walk = oracle.least_way(network, state[0], 0) + walk
            expected = [state]
            for step in walk:
                state = oracle.step_from(network, state, step)
                expected.append(state)
            self.assertEqual(list(trace(network, first, *walk)), expected)
            self.assertEqual(after(network, first, *walk), expected[-1])

    def test_without_steps(self):
        for network in small_networks() + larger_networks():
            self.assertEqual(list(trace(network, network.start)), [network.start])
            self.assertEqual(after(network, network.start), network.start)

    def test_a_step_exchanges_and_moves(self):
        network = Network(3, ((0, 1), (1, 2), (2, 2)))
        state = (1, (3, 2, 1, 0))
        self.assertEqual(after(network, state, 0), (0, (0, 2, 1, 3)))
        self.assertEqual(after(network, state, 1), (2, (3, 0, 1, 2)))
        self.assertEqual(after(network, state, 1, 2), (2, (3, 0, 2, 1)))

    def test_a_loop_leaves_the_walker_where_it_is(self):
        self.assertEqual(list(trace(B, (1, (0, 1, 2)), 1, 1)), [(1, (0, 1, 2)), (1, (0, 2, 1)), (1, (0, 1, 2))])

    def test_by_name(self):
        self.assertEqual(list(trace(state=(1, (2, 1, 0)), network=A)), [(1, (2, 1, 0))])
        self.assertEqual(after(state=(1, (2, 1, 0)), network=A), (1, (2, 1, 0)))

    def test_a_wrong_state_is_reported_at_the_first_request_only(self):
        for state, part in (([], "form"), ((2, 0), "place"), ((0, (0, 1)), "arrangement")):
            states = trace(A, state, 0)
            self.assertEqual(self.caught(InvalidState, next, states).part, part)

    def test_a_wrong_step_is_reported_after_the_states_before_it(self):
        states = trace(B, B.start, 0, 1, 7, 0)
        self.assertEqual([next(states), next(states), next(states)], [B.start, (1, (2, 1, 0)), (1, (2, 0, 1))])
        self.assertEqual(self.caught(InvalidWalk, next, states).index, 2)
        states = trace(A, A.start, -1)
        self.assertEqual(next(states), A.start)
        self.assertEqual(self.caught(InvalidWalk, next, states).index, 0)

    def test_the_first_wrong_step_counts(self):
        self.assertEqual(self.caught(InvalidWalk, after, A, A.start, 0, None, [], 9).index, 1)
        self.assertEqual(self.caught(InvalidWalk, after, B, B.start, 1, 9).index, 0)
        self.assertEqual(self.caught(InvalidWalk, after, B, B.start, 0, 0, 1).index, 2)

    def test_what_is_no_step(self):
        for network in (Network(1, ()), A, B, larger_networks()[-1]):
            many = len(network.passages)
            for value in odd_values() + odd_tuples() + [many, many + 1, 16, 17, 10 ** 999, (0,), [0]]:
                states = trace(network, network.start, value)
                self.assertEqual(next(states), network.start)
                self.assertEqual(self.caught(InvalidWalk, next, states).index, 0)
                if many:
                    self.assertEqual(self.caught(InvalidWalk, after, network, network.start, 0, 0, value).index, 2)

    def test_truth_values_are_no_steps(self):
        for value in (True, False):
            self.assertEqual(self.caught(InvalidWalk, after, A, A.start, value).index, 0)
            self.assertEqual(self.caught(InvalidWalk, after, A, A.start, 0, value).index, 1)

    def test_passages_elsewhere_are_no_steps(self):
        for network in larger_networks():
            for place in range(network.places):
                for passage, ends in enumerate(network.passages):
                    state = (place, network.start[1])
                    if place not in ends:
                        self.assertEqual(self.caught(InvalidWalk, after, network, state, passage).index, 0)

    def test_two_traces_in_turn(self):
        first = trace(A, A.start, 0, 1, 0)
        second = trace(B, B.start, 0, 1, 1, 0)
        third = trace(A, A.start, 1, 1)
        taken = []
        for _ in range(3):
            taken.append((next(first), next(second), next(third)))
        self.assertEqual([states[0] for states in taken], list(trace(A, A.start, 0, 1)))
        self.assertEqual([states[1] for states in taken], list(trace(B, B.start, 0, 1)))
        self.assertEqual([states[2] for states in taken], list(trace(A, A.start, 1, 1)))
        self.assertEqual(list(first), [after(A, A.start, 0, 1, 0)])
        self.assertEqual(len(list(second)), 2)
        self.assertEqual(list(third), [])

    def test_long_walks(self):
        rng = random.Random(1000)
        for network in (A, B, greatest_networks()[0]):
            state, walk = random_state(network, rng, 5000)
            self.assertEqual(after(network, network.start, *walk), state)
            self.assertEqual(len(list(trace(network, network.start, *walk))), 5001)
            home = after(network, state, *back(*walk))
            self.assertEqual(home, network.start)
            self.assertEqual(self.caught(InvalidWalk, after, network, network.start, *walk, 99).index, 5000)


class TestBackAndReduced(QuickTestCase):
    def test_back(self):
        self.assertEqual(back(), ())
        self.assertEqual(back(3), (3,))
        self.assertEqual(back(0, 1, 1, 2), (2, 1, 1, 0))
        self.assertEqual(back(*range(5000)), tuple(range(4999, -1, -1)))

    def test_reduced(self):
        for steps, expected in (
            ((), ()), ((4,), (4,)), ((4, 4), ()), ((4, 4, 4), (4,)), ((0, 1), (0, 1)), ((0, 1, 1, 0), ()),
            ((0, 1, 1, 2), (0, 2)), ((0, 1, 1, 0, 2, 2), ()), ((5, 0, 1, 1, 0, 3), (5, 3)),
            ((0, 1, 0, 1), (0, 1, 0, 1)),
            ((2, 2, 1, 3, 3, 1, 1), (1,)), ((-1, -1, 10 ** 999), (10 ** 999,)),
        ):
            self.assertEqual(reduced(*steps), expected)

    def test_reduced_against_removing_one_by_one(self):
        for length in range(8):
            for steps in itertools.product(range(3), repeat=length):
                left = list(steps)
                while any(x == y for x, y in zip(left, left[1:])):
                    at = [x == y for x, y in zip(left, left[1:])].index(True)
                    del left[at:at + 2]
                self.assertEqual(reduced(*steps), tuple(left))

    def test_reduced_with_long_rows(self):
        self.assertEqual(reduced(*[7] * 5000), ())
        self.assertEqual(reduced(*[7] * 5001), (7,))
        there = tuple(k % 3 for k in range(5000))
        self.assertEqual(reduced(*there), there)
        self.assertEqual(reduced(*there, *back(*there)), ())
        self.assertEqual(reduced(9, *there, *back(*there), 8), (9, 8))

    def test_they_return_tuples(self):
        for call in (back, reduced):
            self.assertIs(type(call()), tuple)
            self.assertIs(type(call(1, 2)), tuple)

    def test_walks_that_are_reduced_lead_to_the_same_state(self):
        rng = random.Random(20)
        for network in larger_networks():
            state, walk = random_state(network, rng, 60)
            short = reduced(*walk)
            self.assertEqual(after(network, network.start, *short), state)
            self.assertEqual(after(network, state, *back(*walk)), network.start)
            self.assertEqual(after(network, state, *back(*short)), network.start)


class TestEffect(QuickTestCase):
    def check(self, network, place, walk, rng):
        moved = effect(network, place, *walk)
        for _ in range(3):
            things = rng.sample(range(len(network.passages) + 1), len(network.passages) + 1)
            _, later = oracle.walked(network, (place, tuple(things)), walk)
            for position, thing in enumerate(things):
                self.assertEqual(later[moved[position]], thing)
        self.assertIs(is_even(moved), len(walk) % 2 == 0)
        return moved

    def test_against_walks_with_other_things(self):
        rng = random.Random(15)
        for network in small_networks() + larger_networks() + greatest_networks():
            for steps in (0, 1, 2, 7, 40):
                state, walk = random_state(network, rng, steps)
                moved = self.check(network, 0, walk, rng)
                backwards = back(*walk)
                self.assertEqual(self.check(network, state[0], backwards, rng), inverse(moved))

    def test_composition(self):
        rng = random.Random(16)
        for network in larger_networks():
            state, walk = random_state(network, rng, 20)
            further = tuple(rng.sample(network.passages_at(state[0]), 1))
            both = walk + further
            composed = compose(effect(network, 0, *walk), effect(network, state[0], *further))
            self.assertEqual(effect(network, 0, *both), composed)

    def test_without_steps(self):
        for network in small_networks() + larger_networks():
            for place in range(network.places):
                self.assertEqual(effect(network, place), network.start[1])

    def test_the_direction(self):
        # The content of the hand goes to the first passage, that of the last passage to the hand.
        network = Network(3, ((0, 1), (1, 2), (0, 2)))
        self.assertEqual(effect(network, 0, 0, 1, 2), (1, 2, 3, 0))
        self.assertEqual(effect(network, 0, 2, 1, 0), (3, 0, 1, 2))
        self.assertEqual(effect(place=2, network=network), (0, 1, 2, 3))

    def test_a_wrong_place_comes_before_a_wrong_step(self):
        for network in (Network(1, ()), A, B, larger_networks()[-1]):
            for place in not_places(network):
                for steps in ((), (0,), (None,), (99, True)):
                    self.assertIs(self.caught(InvalidPlace, effect, network, place, *steps).value, place)

    def test_wrong_steps(self):
        for network in (Network(1, ()), A, B, larger_networks()[-1]):
            for value in odd_values() + odd_tuples() + [len(network.passages), 10 ** 999]:
                self.assertEqual(self.caught(InvalidWalk, effect, network, 0, value).index, 0)
                if network.passages:
                    self.assertEqual(self.caught(InvalidWalk, effect, network, 0, 0, 0, value, 0).index, 2)
        self.assertEqual(self.caught(InvalidWalk, effect, B, 0, 1).index, 0)
        self.assertEqual(self.caught(InvalidWalk, effect, B, 1, 1, 0, 1).index, 2)

    def test_long_walks(self):
        rng = random.Random(17)
        for network in (A, B, greatest_networks()[0]):
            _, walk = random_state(network, rng, 3000)
            self.check(network, 0, walk, rng)


if __name__ == "__main__":
    unittest.main()
