"""Values, networks and a base class that several tests use."""

import faulthandler
import itertools
import unittest

from handwalk.networks import Network

# A call that never ends would stop the whole run without a word.
SECONDS = 120


class QuickTestCase(unittest.TestCase):
    """A test that ends the run with a traceback if it takes far too long, even within one comparison."""

    def setUp(self):
        faulthandler.dump_traceback_later(SECONDS, exit=True)
        self.addCleanup(faulthandler.cancel_dump_traceback_later)

    def caught(self, error_class, call, *args, **named):
        """Return the error of exactly this class that the call raises."""
        with self.assertRaises(error_class) as context:
            call(*args, **named)
        self.assertIs(type(context.exception), error_class)
        return context.exception


def doubled(pair, depth=64):
    """Return a value with 2 ** depth parts: pair(value, value), again and again."""
    value = pair(0, 0)
    for _ in range(depth - 1):
        value = pair(value, value)
    return value


def deep_values():
    """Return values whose parts cannot be visited one by one."""
    tuples = doubled(lambda left, right: (left, right))
    lists = doubled(lambda left, right: [left, right])
    dicts = doubled(lambda left, right: {0: left, 1: right})
    return [tuples, lists, dicts, (0, tuples), (tuples, 0), (0, lists), [tuples, lists], {0: tuples}]


def nested(depth=100):
    """Return a tuple that is nested as deeply as values may be."""
    value = ()
    for _ in range(depth - 1):
        value = (value,)
    return value


def odd_values():
    """Return values of many kinds, none of which is an integer from 0 on."""
    return [
        None, True, False, -1, -(10 ** 999), "", "0", "01", b"", b"0", b"\x00\x01", [], [0], [0, 1], [(0, 1)], {},
        {0: 0}, {0: 1, 1: 0}, set(), {0}, {0, 1}, frozenset(), frozenset({0, 1}), object(), int, len, print, range(2),
        Network(1, ()), Network(2, ((0, 1),)), nested(), *deep_values(),
    ]


def odd_tuples():
    """Return tuples that are neither permutations nor pairs of places."""
    return [
        (None,), (True,), (False,), ("0",), (b"0",), ([],), ([0],), ((),), ((0,),), ({},), (-1,), (1,), (10 ** 999,),
        (0, 0), (1, 1), (0, 2), (1, 2), (0, True), (False, 1), (False, True), (True, False), (0, "1"), (0, None),
        (1, 0, 3), (0, 1, -1), (0, 1, 1), (-1, 0), (0, -1), (0, 1, 2, 4), (2, 1, 0, True), nested(99),
    ]


def small_networks():
    """Return all networks with at most three places and three passages."""
    networks = []
    for places in (1, 2, 3):
        pairs = [(u, v) for u in range(places) for v in range(u, places)]
        for many in range(4):
            for passages in itertools.product(pairs, repeat=many):
                if Network.is_valid(places, passages):
                    networks.append(Network(places, passages))
    return networks


def larger_networks():
    """Return networks of many shapes, up to the greatest numbers of places and passages."""
    ring = tuple((k, k + 1) for k in range(11)) + ((0, 11),)
    line = tuple((k, k + 1) for k in range(11))
    return [
        Network(1, ((0, 0),) * 16),
        Network(2, ((0, 1),) * 16),
        Network(2, ((0, 1), (1, 1), (0, 0))),
        Network(3, ((0, 1), (1, 2), (0, 2), (0, 1), (2, 2))),
        Network(4, ((0, 1), (1, 2), (2, 3), (0, 3), (0, 2))),
        Network(4, ((2, 3), (0, 1), (0, 1), (1, 2), (2, 3))),
        Network(5, ((0, 4), (1, 4), (2, 4), (3, 4))),
        Network(5, ((3, 4), (1, 2), (0, 1), (0, 3), (2, 4), (1, 1))),
        Network(6, ((0, 1), (1, 2), (0, 2), (2, 3), (3, 4), (4, 5), (3, 5))),
        Network(7, ((5, 6), (4, 5), (4, 6), (0, 3), (3, 4), (1, 3), (1, 2), (1, 2), (2, 2))),
        Network(8, ((0, 1), (2, 3), (4, 5), (6, 7), (0, 2), (1, 3), (4, 6), (5, 7), (0, 4), (1, 5), (2, 6), (3, 7))),
        Network(9, ((0, 5), (5, 8), (2, 8), (2, 7), (1, 7), (1, 6), (0, 6), (3, 4), (4, 8))),
        Network(12, line),
        Network(12, ring),
        Network(12, ring + ((0, 6), (2, 8), (3, 3), (0, 1))),
        Network(12, line + ((11, 11), (0, 0), (4, 5), (2, 9), (0, 0))),
    ]
