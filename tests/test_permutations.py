"""Permutations, checked against moving every position."""

import itertools
import math
import unittest

from handwalk.errors import InvalidPermutation, SizeMismatch
from handwalk.permutations import compose, cycles, inverse, is_even, is_permutation, order
from tests.samples import QuickTestCase, nested, odd_tuples, odd_values


def small_permutations():
    for size in range(6):
        yield from itertools.permutations(range(size))


def large_permutations():
    size = 30_000
    yield tuple(range(size))
    yield tuple(reversed(range(size)))
    yield (*range(1, size), 0)
    yield tuple(k ^ 1 for k in range(size))
    yield tuple(k * 7 % 30_011 for k in range(30_011))


def moved(contents, permutation):
    """Return the contents after each of them has moved."""
    places = list(contents)
    for position, content in enumerate(contents):
        places[permutation[position]] = content
    return tuple(places)


def inversions(permutation):
    return sum(1 for a, b in itertools.combinations(permutation, 2) if a > b)


class TestIsPermutation(QuickTestCase):
    def test_small_sizes(self):
        for permutation in small_permutations():
            self.assertIs(is_permutation(permutation), True)

    def test_all_small_tuples(self):
        for size in range(5):
            for items in itertools.product(range(-1, size + 1), repeat=size):
                self.assertIs(is_permutation(items), sorted(items) == list(range(size)))

    def test_the_empty_permutation(self):
        self.assertIs(is_permutation(()), True)
        self.assertIs(is_permutation(value=()), True)

    def test_large_sizes(self):
        for permutation in large_permutations():
            self.assertIs(is_permutation(permutation), True)
            self.assertIs(is_permutation(permutation[:-1] + (len(permutation),)), False)
            self.assertIs(is_permutation(permutation[:-1] + permutation[:1]), False)

    def test_lists_and_truth_values(self):
        for value in ([], [0], [0, 1], (False,), (0, True), (False, True), (1, False), (False, 1)):
            self.assertIs(is_permutation(value), False)

    def test_other_values(self):
        for value in odd_values() + odd_tuples():
            self.assertIs(is_permutation(value), False)


class TestCompose(QuickTestCase):
    def test_without_arguments(self):
        self.assertEqual(compose(), ())

    def test_one_argument(self):
        for permutation in small_permutations():
            self.assertEqual(compose(permutation), permutation)

    def test_two_arguments_move_the_contents_twice(self):
        for size in range(5):
            contents = tuple("abcd"[:size])
            for first, second in itertools.product(itertools.permutations(range(size)), repeat=2):
                together = compose(first, second)
                self.assertIs(type(together), tuple)
                self.assertEqual(moved(contents, together), moved(moved(contents, first), second))

    def test_the_first_one_is_performed_first(self):
        self.assertEqual(compose((1, 0, 2), (0, 2, 1)), (2, 0, 1))
        self.assertEqual(compose((0, 2, 1), (1, 0, 2)), (1, 2, 0))

    def test_many_arguments(self):
        contents = (0, 1, 2, 3)
        several = list(itertools.permutations(range(4))) * 20
        expected = contents
        for permutation in several:
            expected = moved(expected, permutation)
        self.assertEqual(moved(contents, compose(*several)), expected)

    def test_empty_permutations(self):
        self.assertEqual(compose((), (), ()), ())

    def test_large_sizes(self):
        for permutation in large_permutations():
            contents = tuple(range(len(permutation)))
            together = compose(permutation, permutation, permutation)
            expected = moved(moved(moved(contents, permutation), permutation), permutation)
            self.assertEqual(moved(contents, together), expected)

    def test_sizes_that_differ(self):
        for sizes in ((0, 1), (1, 0), (2, 3), (3, 3, 2), (3, 2, 2), (1, 2, 3, 4), (2, 1, 2)):
            error = self.caught(SizeMismatch, compose, *[tuple(range(size)) for size in sizes])
            self.assertEqual(error.sizes, sizes)
            self.assertIs(type(error.sizes), tuple)

    def test_the_first_wrong_argument_is_reported(self):
        for value in odd_values() + odd_tuples():
            other = [1, 0]
            for before in ((), ((0,),), ((0, 1),), ((), (0, 1), (0, 1, 2))):
                self.assertIs(self.caught(InvalidPermutation, compose, *before, value).value, value)
                self.assertIs(self.caught(InvalidPermutation, compose, *before, value, (0,), other).value, value)

    def test_the_very_object_among_equal_ones(self):
        values = [[0, 1], [0, 1]]
        self.assertIs(self.caught(InvalidPermutation, compose, (0,), *values).value, values[0])
        self.assertIs(self.caught(InvalidPermutation, compose, *reversed(values)).value, values[1])


class TestOnePermutation(QuickTestCase):
    def test_inverse(self):
        for permutation in [*small_permutations(), *large_permutations()]:
            contents = tuple(range(100, 100 + len(permutation)))
            undone = inverse(permutation)
            self.assertIs(type(undone), tuple)
            self.assertTrue(moved(moved(contents, permutation), undone) == contents)

    def test_cycles_move_every_position(self):
        for permutation in [*small_permutations(), *large_permutations()]:
            found = cycles(permutation)
            self.assertIs(type(found), tuple)
            self.assertTrue(found == tuple(sorted(found)))
            targets = list(range(len(permutation)))
            for cycle in found:
                self.assertIs(type(cycle), tuple)
                self.assertTrue(len(cycle) >= 2 and cycle[0] == min(cycle))
                for position, target in zip(cycle, cycle[1:] + cycle[:1]):
                    self.assertEqual(targets[position], position)
                    targets[position] = target
            self.assertTrue(tuple(targets) == permutation)

    def test_cycles_of_known_permutations(self):
        self.assertEqual(cycles(()), ())
        self.assertEqual(cycles((0, 1, 2)), ())
        self.assertEqual(cycles((0, 2, 1)), ((1, 2),))
        self.assertEqual(cycles((3, 4, 2, 1, 0)), ((0, 3, 1, 4),))
        self.assertEqual(cycles((5, 2, 1, 4, 3, 0)), ((0, 5), (1, 2), (3, 4)))

    def test_order_counts_the_repetitions(self):
        for permutation in small_permutations():
            contents = tuple(range(len(permutation)))
            times, now = 1, moved(contents, permutation)
            while now != contents:
                times, now = times + 1, moved(now, permutation)
            self.assertEqual(order(permutation), times)

    def test_order_of_large_permutations(self):
        self.assertEqual(order(tuple(range(30_000))), 1)
        self.assertEqual(order((*range(1, 30_000), 0)), 30_000)
        lengths = [2, 3, 4, 5, 7, 9, 11, 13, 16, 17, 19, 23, 25, 29, 31, 37, 41, 43, 47, 49, 53, 59, 61]
        items = []
        for length in lengths:
            base = len(items)
            items.extend([base + (k + 1) % length for k in range(length)])
        self.assertEqual(order(tuple(items)), math.lcm(*lengths))

    def test_is_even_counts_the_inversions(self):
        for permutation in small_permutations():
            self.assertIs(is_even(permutation), inversions(permutation) % 2 == 0)

    def test_is_even_of_large_permutations(self):
        self.assertIs(is_even(tuple(range(30_000))), True)
        self.assertIs(is_even((*range(1, 30_000), 0)), False)
        self.assertIs(is_even((*range(1, 30_001), 0)), True)
        self.assertIs(is_even((1, 0, *range(2, 30_000))), False)

    def test_the_empty_permutation(self):
        self.assertEqual((inverse(()), cycles(()), order(()), is_even(())), ((), (), 1, True))

    def test_by_name(self):
        turn = (1, 2, 0)
        self.assertEqual(inverse(permutation=turn), (2, 0, 1))
        self.assertEqual(cycles(permutation=turn), ((0, 1, 2),))
        self.assertEqual(order(permutation=turn), 3)
        self.assertIs(is_even(permutation=turn), True)

    def test_wrong_values(self):
        for function in (inverse, cycles, order, is_even):
            for value in odd_values() + odd_tuples():
                self.assertIs(self.caught(InvalidPermutation, function, value).value, value)
                self.assertIs(self.caught(InvalidPermutation, function, permutation=value).value, value)

    def test_wrong_lists_are_not_modified(self):
        for function in (inverse, cycles, order, is_even, compose):
            value = [1, 0, 2]
            self.assertIs(self.caught(InvalidPermutation, function, value).value, value)
            self.assertEqual(value, [1, 0, 2])

    def test_values_of_the_greatest_depth(self):
        for function in (inverse, cycles, order, is_even, compose):
            value = nested()
            self.assertIs(self.caught(InvalidPermutation, function, value).value, value)


if __name__ == "__main__":
    unittest.main()
