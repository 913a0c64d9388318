"""Permutations as tuples: item i is the position to which the content of position i moves ([15])."""

from math import lcm

from handwalk.checks import is_index
from handwalk.errors import InvalidPermutation, SizeMismatch


def is_permutation(value):
    """Return True if the value is a permutation, and False otherwise, for any value."""
    if not isinstance(value, tuple):
        return False
    # A list and not a set: only integers may be compared or hashed, other items may have no end of parts.
    seen = [False] * len(value)
    for item in value:
        if not is_index(item, len(value)) or seen[item]:
            return False
        seen[item] = True
    return True


def _check(value):
    if not is_permutation(value):
        raise InvalidPermutation(value)


def compose(*permutations):
    """Return the permutation that performs the given ones one after the other, the first one first."""
    for permutation in permutations:
        _check(permutation)
    sizes = tuple([len(permutation) for permutation in permutations])
    if len(set(sizes)) > 1:
        raise SizeMismatch(sizes)
    if not permutations:
        return ()
    moved = list(range(sizes[0]))
    for permutation in permutations:
        moved = [permutation[position] for position in moved]
    return tuple(moved)


def inverse(permutation):
    """Return the permutation that undoes the given one."""
    _check(permutation)
    origins = [0] * len(permutation)
    for position, target in enumerate(permutation):
        origins[target] = position
    return tuple(origins)


def cycles(permutation):
    """Return the ascending tuple of the cycles, each of which begins with its least position."""
    _check(permutation)
    seen = [False] * len(permutation)
    found = []
    for first in range(len(permutation)):
        cycle = []
        position = first
        while not seen[position]:
            seen[position] = True
            cycle.append(position)
            position = permutation[position]
        if len(cycle) > 1:
            found.append(tuple(cycle))
    return tuple(found)


def order(permutation):
    """Return the least number from 1 on of repetitions that change nothing."""
    repetitions = 1
    for cycle in cycles(permutation):
        repetitions = lcm(repetitions, len(cycle))
    return repetitions


def is_even(permutation):
    """Return True if the permutation is even, and False if it is odd."""
    exchanges = sum([len(cycle) - 1 for cycle in cycles(permutation)])
    return exchanges % 2 == 0
