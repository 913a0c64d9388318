"""The whole program together: its modules agree with each other."""

import itertools
import math
import random
import unittest

from handwalk.bringing import bring, reachable_spots
from handwalk.console import Console
from handwalk.decisions import check_decision, decide, is_reachable, parts
from handwalk.kinds import count_patterns, match
from handwalk.listing import count_arrangements, count_states, farthest, states, walk_to
from handwalk.moves import after
from handwalk.networks import Network
from handwalk.walkers import Carrier, Stroller, Walker
from tests.records import records
from tests.samples import (
    QuickTestCase, greatest_networks, larger_networks, networks_of_five, random_state, small_networks,
    special_networks,
)


def in_words(numbers):
    return " ".join(str(number) for number in numbers) or "none"


def new_command(network):
    return "new" + " /".join(f" {u} {v}" for u, v in network.passages)


class TestWalkersAndDecisions(QuickTestCase):
    def check_walker(self, walker):
        network = walker.network
        for state in (walker.state, *[state for _, state in list(walker.choices())[:2]]):
            self.assertIs(is_reachable(network, state), True)
            word, walk = decide(network, state)
            self.assertEqual((word, check_decision(network, state, (word, walk))), ("walk", "walk"))
            self.assertEqual(after(network, network.start, *walk), state)
            if len(walk) <= 1000:
                self.assertEqual(Walker(network, *walk).state, state)
                self.assertEqual(Stroller(network, *walk).state, state)

    def test_every_state_of_a_walker_is_reachable(self):
        rng = random.Random(80)
        for network in small_networks()[::2] + larger_networks() + greatest_networks() + special_networks()[::9]:
            for record in rng.sample(records(network, rng), 2):
                _, walk = random_state(network, rng, 60)
                self.check_walker(record.made(*walk))

    def test_all_states_of_a_history_are_right_answers(self):
        rng = random.Random(81)
        for network in larger_networks():
            _, walk = random_state(network, rng, 40)
            walker = Walker(network, *walk)
            for many, state in enumerate(walker.history()):
                self.assertEqual(check_decision(network, state, ("walk", walker.steps[:many])), "walk")


class TestSmallNetworks(QuickTestCase):
    """All that the modules say about networks of which all states can be listed."""

    def networks(self):
        return small_networks() + [network for network in networks_of_five() if len(network.passages) == 4][::3]

    def test_states(self):
        for network in self.networks():
            listed = dict((state, distance) for distance, state in states(network))
            self.assertEqual(len(listed), count_states(network))
            self.assertEqual(farthest(network)[0], max(listed.values()))
            orders = itertools.permutations(range(len(network) + 1))
            for state in itertools.product(range(network.places), orders):
                self.assertIs(is_reachable(network, state), state in listed)
                self.assertEqual(decide(network, state)[0] == "walk", state in listed)
            home = [things for place, things in listed if place == 0]
            self.assertEqual(len(home), count_arrangements(network))
            kinds = tuple(range(len(network) + 1))
            self.assertEqual(count_patterns(network, kinds), len(home))
            for things in itertools.permutations(range(len(network) + 1)):
                self.assertEqual(match(network, kinds, things), things if things in home else None)

    def test_walks(self):
        for network in self.networks():
            for distance, state in list(states(network))[::3]:
                walk = walk_to(network, state)
                walker = Walker(network, *walk)
                self.assertEqual((len(walk), walker.state), (distance, state))
                self.assertEqual(Stroller(network, *walk).steps, walk)
                self.assertTrue(len(decide(network, state)[1]) >= distance)

    def test_neighbors(self):
        for network in self.networks():
            listed = dict((state, distance) for distance, state in states(network))
            for state, distance in list(listed.items())[::5]:
                walker = Walker(network, *walk_to(network, state))
                for _, reached in walker.choices():
                    self.assertEqual(abs(listed[reached] - distance), 1)

    def test_spots(self):
        for network in self.networks():
            listed = list(states(network))
            for thing in range(len(network) + 1):
                distances = {}
                for distance, (place, things) in listed:
                    distances.setdefault((place, things.index(thing)), distance)
                self.assertEqual(reachable_spots(network, thing), tuple(sorted(distances)))
                for position in range(len(network) + 1):
                    for place in range(network.places):
                        walk = bring(network, thing, position, place=place)
                        found = None if walk is None else len(walk)
                        self.assertEqual(found, distances.get((place, position)))
                    walk = bring(network, thing, position)
                    carrier = Carrier(network, thing=thing, position=position)
                    self.assertEqual(carrier.left(), None if walk is None else len(walk))
                    if walk is not None:
                        carrier.walk(*walk)
                        self.assertEqual((carrier.is_done, carrier.left()), (True, 0))
                        self.assertEqual(carrier.arrivals, 1 if walk else 0)

    def test_the_console(self):
        for network in self.networks()[::2]:
            console = Console()
            self.assertEqual(console.run(new_command(network)), "ok")
            self.assertEqual(console.run("count"), str(count_states(network)))
            orders = list(itertools.permutations(range(len(network) + 1)))
            for state in list(itertools.product(range(network.places), orders))[::3]:
                place, things = state
                self.assertEqual(console.run("decide " + in_words([place, *things])), decide(network, state)[0])
            for thing, position in itertools.product(range(len(network) + 1), repeat=2):
                walk = bring(network, thing, position)
                expected = "no" if walk is None else in_words(walk)
                self.assertEqual(console.run(f"bring {thing} {position}"), expected)
            distance, (state, *_) = farthest(network)
            walk = walk_to(network, state)
            words = ["walk", *[str(step) for step in walk]]
            self.assertEqual(console.run(" ".join(words)), str(state[0]))
            self.assertEqual(console.run("state"), in_words([state[0], *state[1]]))
            self.assertEqual(console.run("text"), in_words(walk))
            for _ in range(distance):
                console.run("back")
            self.assertEqual(console.run("state"), in_words([0, *range(len(network) + 1)]))

    def test_texts(self):
        for network in self.networks()[::2]:
            for _, state in list(states(network))[::7]:
                walker = Walker(network, *walk_to(network, state))
                self.assertEqual(Walker.read(walker.text()).state, state)


class TestJoinedNetworks(QuickTestCase):
    def joined(self, left, right, place):
        """Return the network of both, with a bridge from the place of the left one to place 0 of the right one."""
        moved = [(u + left.places, v + left.places) for u, v in right.passages]
        return Network(left.places + right.places, (*left.passages, *moved, (place, left.places)))

    def test_two_networks_and_a_bridge(self):
        rng = random.Random(82)
        some = small_networks() + networks_of_five()[::5]
        for _ in range(60):
            left, right = rng.choice(some), rng.choice(some)
            both = self.joined(left, right, rng.randrange(left.places))
            many = count_arrangements(left) * count_arrangements(right)
            self.assertEqual(count_arrangements(both), many)
            self.assertEqual(count_states(both), many * both.places)
            self.assertEqual(len(parts(both)), len(parts(left)) + len(parts(right)))
            self.check_both(left, right, both, rng)

    def check_both(self, left, right, both, rng):
        """Check that the things on both sides are arranged independently."""
        first, second, hand = len(left), len(right), len(both)
        for _ in range(4):
            one, other = self.some_home(left, rng), self.some_home(right, rng)
            # The hand of the right network is the bridge.
            seats = [*range(first, first + second), hand - 1]
            things = [*one[:-1], *[seats[thing] for thing in other], one[-1]]
            things = [hand if at < first and thing == first else thing for at, thing in enumerate(things)]
            things[-1] = hand if one[-1] == first else one[-1]
            expected = is_reachable(left, (0, one)) and is_reachable(right, (0, other))
            self.assertIs(is_reachable(both, (0, tuple(things))), expected)
            self.assertEqual(decide(both, (0, tuple(things)))[0] == "walk", expected)

    def some_home(self, network, rng):
        """Return things at home that can be reached, or perhaps not."""
        (place, things), walk = random_state(network, rng, 20)
        if rng.random() < 0.3:
            return tuple(rng.sample(things, len(things)))
        back = network.way(place, 0)
        return after(network, (place, things), *back)[1]

    def test_the_states_of_both_in_a_list(self):
        triangle = Network(3, ((0, 1), (1, 2), (0, 2)))
        loop = Network(1, ((0, 0),))
        for left, right in ((triangle, loop), (loop, triangle), (triangle, Network(1, ())), (loop, loop)):
            for place in range(left.places):
                both = self.joined(left, right, place)
                self.assertEqual(len(list(states(both))), count_arrangements(left) * count_arrangements(right)
                                 * (left.places + right.places))

    def test_a_further_place_at_the_end_of_a_bridge(self):
        rng = random.Random(83)
        for network in small_networks() + networks_of_five()[::5] + special_networks()[::9]:
            further = Network(network.places + 1, (*network.passages, (rng.randrange(network.places), network.places)))
            self.assertEqual(count_arrangements(further), count_arrangements(network))
            self.assertEqual(count_states(further), count_arrangements(network) * (network.places + 1))
            self.assertEqual([part.KIND for part in parts(further)], [part.KIND for part in parts(network)])
            hand = len(network)
            for _ in range(3):
                things = self.some_home(network, rng)
                moved = [hand + 1 if thing == hand else thing for thing in things]
                state = (0, (*moved[:-1], hand, moved[-1]))
                self.assertIs(is_reachable(further, state), is_reachable(network, (0, things)))
                kinds = [rng.randrange(3) for _ in things]
                pattern = tuple(kinds[thing] for thing in self.some_home(network, rng))
                found = match(network, tuple(kinds), pattern)
                wide = match(further, (*kinds[:-1], 9, kinds[-1]), (*pattern[:-1], 9, pattern[-1]))
                self.assertEqual(wide is None, found is None)

    def test_a_further_loop(self):
        rng = random.Random(84)
        for network in small_networks() + networks_of_five()[::5] + special_networks()[::9]:
            place = rng.randrange(network.places)
            further = Network(network.places, (*network.passages, (place, place)))
            inner = [part for part in parts(network) if place in part.cell]
            if inner:
                [part] = inner
                many = count_arrangements(network) // part.arrangements() * math.factorial(len(part.seats) + 1)
            else:
                many = count_arrangements(network) * 2
            self.assertEqual(count_arrangements(further), many)
            self.assertEqual(count_states(further), many * network.places)
            if many * network.places <= 5000:
                self.assertEqual(len(list(states(further))), many * network.places)


if __name__ == "__main__":
    unittest.main()
