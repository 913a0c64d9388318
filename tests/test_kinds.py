"""Things of equal kinds: which patterns are possible, and how many."""

import collections
import itertools
import math
import random
import unittest

from handwalk.decisions import is_reachable, parts
from handwalk.errors import InvalidKinds
from handwalk.kinds import count_patterns, match
from handwalk.networks import Network
from tests import oracle
from tests.samples import (
    QuickTestCase, deep_values, greatest_networks, larger_networks, networks_of_five, odd_tuples, odd_values,
    random_state, small_networks, special_networks,
)

A = Network(2, ((0, 1), (0, 1)))
B = Network(2, ((0, 1), (1, 1)))
SPECIAL = Network(4, ((0, 1), (1, 2), (2, 3), (0, 3), (0, 2)))
EVEN = Network(2, ((0, 1), (0, 1), (0, 1)))
ALL = Network(1, ((0, 0), (0, 0)))


def at_home(network):
    """Return the set of all arrangements with which the walker can be at place 0."""
    return {things for place, things in oracle.all_states(network) if place == 0}


def some_kinds(many, rng):
    """Return kinds of so many things: one, two, three and many kinds, and all of them different if they can be."""
    found = [(7,) * many]
    for variety in (2, 3, 10):
        found.append(tuple(rng.sample(range(10), variety)[rng.randrange(variety)] for _ in range(many)))
    if many <= 10:
        found.append(tuple(rng.sample(range(10), many)))
        alike = rng.sample(range(10), many)
        alike[0] = alike[-1]
        found.append(tuple(rng.sample(alike, many)))
    return found


def all_orders(values):
    return sorted(set(itertools.permutations(values)))


class KindsTestCase(QuickTestCase):
    def check(self, network, kinds, pattern, home):
        """Check match against all arrangements with which the walker can be at place 0."""
        found = match(network, kinds, pattern)
        if found is None:
            self.assertNotIn(pattern, {oracle.pattern_of(kinds, things) for things in home})
        else:
            self.assertIs(type(found), tuple)
            self.assertEqual({type(thing) for thing in found}, {int})
            self.assertIn(found, home)
            self.assertEqual(oracle.pattern_of(kinds, found), pattern)

    def check_all(self, network, kinds, home, every=1):
        """Check the number of patterns, all that are possible, and all or some other orders of the kinds."""
        possible = {oracle.pattern_of(kinds, things) for things in home}
        self.assertEqual(count_patterns(network, kinds), len(possible))
        for pattern in sorted(possible)[::every]:
            self.assertIsNotNone(match(network, kinds, pattern))
        for pattern in all_orders(kinds)[::every]:
            self.check(network, kinds, pattern, home)


class TestAgainstAllArrangements(KindsTestCase):
    def test_small_networks(self):
        for network in small_networks():
            home = at_home(network)
            many = len(network.passages) + 1
            for kinds in itertools.product((0, 4, 9), repeat=many):
                self.check_all(network, kinds, home, 1 if many < 4 else 3)
            self.check_all(network, tuple(range(many)), home)

    def test_every_pattern_of_three_things(self):
        for network in small_networks():
            if len(network.passages) == 2:
                home = at_home(network)
                for kinds in itertools.product(range(3), repeat=3):
                    for pattern in itertools.product(range(4), repeat=3):
                        self.check(network, kinds, pattern, home)

    def test_networks_of_five(self):
        rng = random.Random(51)
        for number, network in enumerate(networks_of_five()):
            many = len(network.passages) + 1
            if many < 6 or number % 3 == 0:
                home = at_home(network)
                for kinds in some_kinds(many, rng):
                    self.check_all(network, kinds, home, 1 if many < 5 else 17)

    def test_special_parts(self):
        rng = random.Random(26)
        for network in special_networks()[::7]:
            home = at_home(network)
            self.assertEqual(len(home), 120)
            for kinds in some_kinds(len(network.passages) + 1, rng):
                self.check_all(network, kinds, home, 23)

    def test_a_special_part_with_few_kinds(self):
        home = at_home(SPECIAL)
        for kinds in itertools.product((1, 2), repeat=6):
            self.check_all(SPECIAL, kinds, home)
        behind = Network(5, ((0, 1), (1, 2), (2, 3), (3, 4), (1, 4), (1, 3)))
        home = at_home(behind)
        for kinds in ((1, 2, 3, 1, 2, 3, 0), (0, 0, 0, 1, 2, 3, 4), (5, 4, 3, 2, 1, 0, 5)):
            self.check_all(behind, kinds, home, 3)


class TestKnownNumbers(KindsTestCase):
    def test_one_kind_only(self):
        for network in small_networks() + larger_networks() + greatest_networks() + special_networks()[::5]:
            many = len(network.passages) + 1
            kinds = (3,) * many
            self.assertEqual(count_patterns(network, kinds), 1)
            self.assertTrue(is_reachable(network, (0, match(network, kinds, kinds))))
            for at in range(many):
                self.assertIsNone(match(network, kinds, kinds[:at] + (4,) + kinds[at + 1:]))

    def test_unlike_kinds(self):
        for network in [*small_networks(), EVEN, ALL, SPECIAL, *special_networks()[::5]]:
            kinds = tuple(range(len(network.passages) + 1))
            many = 1
            for part in parts(network):
                many *= part.arrangements()
            self.assertEqual(count_patterns(network, kinds), many)

    def test_parts_with_two_things_of_the_same_kind(self):
        for network, kinds, many in (
            (EVEN, (0, 1, 2, 3), 12), (EVEN, (0, 1, 2, 0), 12), (EVEN, (1, 1, 2, 3), 12), (EVEN, (1, 1, 2, 2), 6),
            (EVEN, (0, 1, 1, 1), 4), (ALL, (0, 1, 2), 6), (ALL, (0, 1, 1), 3), (ALL, (2, 2, 2), 1),
            (A, (0, 1, 2), 3), (A, (0, 0, 2), 3), (A, (0, 0, 0), 1), (B, (0, 1, 2), 2), (B, (1, 1, 2), 1),
            (B, (2, 1, 2), 2), (B, (0, 2, 2), 2), (B, (2, 2, 2), 1), (Network(1, ()), (9,), 1),
            (Network(4, ((0, 1), (1, 2), (2, 3), (0, 3))), (1, 2, 1, 2, 5), 5),
            (Network(2, ((0, 1),) * 16), (0,) * 8 + (1,) * 9, math.comb(17, 8)),
            (Network(1, ((0, 0),) * 16), (0,) * 8 + (1,) * 9, math.comb(17, 8)),
            (Network(2, ((0, 1),) * 9), tuple(range(10)), math.factorial(10) // 2),
            (Network(1, ((0, 0),) * 9), tuple(range(10)), math.factorial(10)),
            (Network(2, ((0, 1),) * 9), (1, *range(1, 10)), math.factorial(10) // 2),
            (Network(2, ((0, 1),) * 10), (1, *range(10)), math.factorial(11) // 2),
        ):
            self.assertEqual(count_patterns(network, kinds), many)

    def test_the_sign_of_unlike_kinds(self):
        wide = Network(2, ((0, 1),) * 9)
        for network, odd_are_possible in ((EVEN, False), (wide, False), (ALL, True), (Network(1, ((0, 0),) * 9), True)):
            things = list(network.start[1])
            kinds = tuple(things)
            self.assertEqual(match(network, kinds, kinds), kinds)
            for at in range(len(things) - 1):
                things[at], things[at + 1] = things[at + 1], things[at]
                possible = odd_are_possible or at % 2 == 1
                self.assertEqual(match(network, kinds, tuple(things)), tuple(things) if possible else None)

    def test_a_tie_mends_the_sign(self):
        wide = Network(2, ((0, 1),) * 9)
        for network in (EVEN, wide):
            things = network.start[1]
            for first, second in itertools.combinations(things, 2):
                kinds = list(things)
                kinds[second] = first
                for swap in ((0, 1), (1, 2), (0, 3), (2, 3)):
                    pattern = list(kinds)
                    pattern[swap[0]], pattern[swap[1]] = kinds[swap[1]], kinds[swap[0]]
                    found = match(network, tuple(kinds), tuple(pattern))
                    self.assertTrue(is_reachable(network, (0, found)))
                    self.assertEqual(oracle.pattern_of(kinds, found), tuple(pattern))

    def test_positions_that_are_no_seats(self):
        # Passage 0 of B is a gate, passage 1 a loop, and the hand is not a seat.
        self.assertEqual(match(B, (1, 2, 3), (2, 1, 3)), (1, 0, 2))
        self.assertIsNone(match(B, (1, 2, 3), (3, 2, 1)))
        self.assertIsNone(match(B, (1, 1, 3), (3, 1, 1)))
        self.assertIsNone(match(B, (1, 2, 3), (1, 2, 4)))
        line = Network(3, ((0, 1), (1, 2)))
        for pattern in itertools.product((0, 1), repeat=3):
            self.assertEqual(match(line, (0, 1, 1), pattern), (0, 1, 2) if pattern == (0, 1, 1) else None)

    def test_things_of_equal_kinds_in_two_parts(self):
        two = Network(3, ((0, 0), (0, 1), (1, 2), (1, 2)))
        # Seats 0 and 4 on one side, 1, 2 and 3 on the other; the kinds must not be exchanged between them.
        self.assertIsNone(match(two, (1, 2, 2, 2, 2), (2, 1, 2, 2, 2)))
        self.assertEqual(count_patterns(two, (1, 2, 2, 2, 2)), 2)
        self.assertEqual(count_patterns(two, (1, 2, 3, 3, 2)), 2 * 3)


class TestWalks(KindsTestCase):
    def test_every_pattern_of_a_walk_from_home_to_home_is_possible(self):
        rng = random.Random(50)
        for network in small_networks() + larger_networks() + greatest_networks() + special_networks()[::5]:
            for steps in (0, 3, 30, 200):
                state, _ = random_state(network, rng, steps)
                things = oracle.home(network, state)
                for kinds in some_kinds(len(things), rng):
                    pattern = oracle.pattern_of(kinds, things)
                    found = match(network, kinds, pattern)
                    self.assertTrue(is_reachable(network, (0, found)))
                    self.assertEqual(oracle.pattern_of(kinds, found), pattern)

    def test_orders_of_the_kinds_by_chance(self):
        rng = random.Random(52)
        answers = collections.Counter()
        for network in larger_networks() + greatest_networks() + special_networks()[::5]:
            described = oracle.described_parts(network)
            for kinds in some_kinds(len(network.passages) + 1, rng):
                pattern = list(kinds)
                for part in described:
                    for seat, kind in zip(part.seats, rng.sample([kinds[x] for x in part.seats], len(part.seats))):
                        pattern[seat] = kind
                found = match(network, kinds, tuple(pattern))
                answers[found is None] += 1
                if found is not None:
                    self.assertTrue(oracle.is_reachable(network, described, found))
                    self.assertEqual(oracle.pattern_of(kinds, found), tuple(pattern))
                elif all(part.kind in ("all", "even") for part in described):
                    self.assertTrue(any(
                        part.kind == "even" and len({kinds[x] for x in part.seats}) == len(part.seats)
                        for part in described
                    ))
        self.assertTrue(answers[True] > 20 and answers[False] > 20)


class TestLargeNetworks(KindsTestCase):
    def expected(self, part, kinds):
        shown = [kinds[x] for x in part.seats]
        if part.kind == "ring":
            around = [kinds[x] for x in part.circle]
            return len({tuple(around[k:] + around[:k]) for k in range(len(around))})
        many = math.factorial(len(shown))
        for times in collections.Counter(shown).values():
            many //= math.factorial(times)
        return many // 2 if part.kind == "even" and len(set(shown)) == len(shown) else many

    def test_the_numbers_multiply(self):
        rng = random.Random(53)
        for network in larger_networks() + greatest_networks():
            described = oracle.described_parts(network)
            for kinds in some_kinds(len(network.passages) + 1, rng):
                if all(part.kind != "special" for part in described):
                    expected = math.prod(self.expected(part, kinds) for part in described)
                    self.assertEqual(count_patterns(network, kinds), expected)

    def test_two_special_parts(self):
        four = ((0, 1), (1, 2), (2, 3), (0, 3), (0, 2))
        two = Network(8, (*four, *[(u + 4, v + 4) for u, v in four], (3, 4)))
        self.assertEqual([part.KIND for part in parts(two)], ["special"] * 2)
        # The second part has the passages 5 to 9 and the gate 10; the hand is 11.
        self.assertEqual(count_patterns(two, (0, 1, 2, 3, 4, 0, 1, 2, 3, 4, 5, 5)), 120 * 120)
        self.assertEqual(count_patterns(two, (0, 0, 0, 0, 0, 0, 1, 2, 3, 4, 5, 5)), 6 * 120)


def not_kinds():
    """Return values that are no integers from 0 to 9."""
    return odd_values() + odd_tuples() + [10, 11, 10 ** 999, -1, (0,), [0], "9", 16]


class TestErrors(QuickTestCase):
    def check(self, network, kinds, part, index):
        """Check the error of both functions, and that of match alone if the pattern is wrong in this way."""
        right = (0,) * (len(network.passages) + 1)
        for call in (lambda: match(network, kinds, right), lambda: count_patterns(network, kinds)):
            error = self.caught(InvalidKinds, call)
            self.assertEqual((error.part, error.index), ("kinds", index))
            self.assertIn(type(error.index), (int, type(None)))
        error = self.caught(InvalidKinds, match, network, right, kinds)
        self.assertEqual((error.part, error.index), ("pattern", index))
        # The kinds come first.
        error = self.caught(InvalidKinds, match, network, kinds, kinds)
        self.assertEqual((error.part, error.index), ("kinds", index))

    def test_values_that_are_no_tuples(self):
        for network in (Network(1, ()), A, B, larger_networks()[-1]):
            many = len(network.passages) + 1
            for value in odd_values() + [0, 5, 10, [0] * many, list(range(many)), "0" * many, b"0" * many,
                                         dict.fromkeys(range(many), 0), set(range(many))]:
                if not isinstance(value, tuple):
                    self.check(network, value, "kinds", None)

    def test_too_few_and_too_many_items(self):
        for network in (Network(1, ()), A, B, larger_networks()[-1]):
            many = len(network.passages) + 1
            for length in {0, 1, 2, 3, 16, 17, 18, many - 1, many + 1, 5000} - {many}:
                for item in (0, 9, 10, None, True, [0]):
                    self.check(network, (item,) * length, "kinds", None)

    def test_wrong_items(self):
        for network in (Network(1, ()), A, B, larger_networks()[-1]):
            many = len(network.passages) + 1
            for value in not_kinds():
                for at in sorted({0, many // 2, many - 1}):
                    kinds = [9] * many
                    kinds[at] = value
                    self.check(network, tuple(kinds), "kinds", at)
                    if at + 1 < many:
                        kinds[-1] = None
                        self.check(network, tuple(kinds), "kinds", at)

    def test_the_least_and_the_greatest_kind(self):
        self.assertEqual(match(A, (0, 9, 0), (9, 0, 0)), (1, 2, 0))
        self.assertEqual(count_patterns(A, (0, 9, 0)), 3)
        for value in (10, -1, True, False):
            self.check(A, (0, value, 0), "kinds", 1)

    def test_wrong_kinds_come_before_a_wrong_pattern(self):
        for kinds, index in (((0, 1), None), ([0, 1, 2], None), ((0, 1, 10), 2), ((True, 0, 0), 0)):
            for pattern in (None, (), (0, 1, 2), (0, 1, 10), [0, 1, 2], (10, 0, 0)):
                error = self.caught(InvalidKinds, match, A, kinds, pattern)
                self.assertEqual((error.part, error.index), ("kinds", index))

    def test_deep_values(self):
        for value in deep_values():
            self.check(A, (value, value, value), "kinds", 0)
            self.check(A, (0, 0, value), "kinds", 2)
            self.check(A, value, "kinds", None)

    def test_a_pattern_with_other_kinds_is_not_possible(self):
        for pattern in ((0, 0, 0), (5, 5, 5), (5, 7, 7), (5, 7, 8), (9, 9, 9)):
            self.assertIsNone(match(A, (5, 5, 7), pattern))

    def test_by_name(self):
        self.assertEqual(match(pattern=(7, 5, 5), kinds=(5, 5, 7), network=A), (2, 0, 1))
        self.assertEqual(count_patterns(kinds=(5, 5, 7), network=A), 3)


if __name__ == "__main__":
    unittest.main()
