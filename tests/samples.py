"""Values, networks and a base class that several tests use."""

import faulthandler
import itertools
import random
import unittest

from handwalk.networks import Network

# A call that never ends would stop the whole run without a word.
SECONDS = 120


class QuickTestCase(unittest.TestCase):
    """A test that ends the run with a traceback if it takes far too long, even within one comparison."""

    def setUp(self):
        faulthandler.dump_traceback_later(SECONDS, exit=True)
        self.addCleanup(faulthandler.cancel_dump_traceback_later)

    def caught(self, error_class, call, *args, **named):
        """Return the error of exactly this class that the call raises."""
        with self.assertRaises(error_class) as context:
            call(*args, **named)
        self.assertIs(type(context.exception), error_class)
        return context.exception


def doubled(pair, depth=64):
    """Return a value with 2 ** depth parts: pair(value, value), again and again."""
    value = pair(0, 0)
    for _ in range(depth - 1):
        value = pair(value, value)
    return value


def deep_values():
    """Return values whose parts cannot be visited one by one."""
    tuples = doubled(lambda left, right: (left, right))
    lists = doubled(lambda left, right: [left, right])
    dicts = doubled(lambda left, right: {0: left, 1: right})
    return [tuples, lists, dicts, (0, tuples), (tuples, 0), (0, lists), [tuples, lists], {0: tuples}]


def nested(depth=100):
    """Return a tuple that is nested as deeply as values may be."""
    value = ()
    for _ in range(depth - 1):
        value = (value,)
    return value


def odd_values():
    """Return values of many kinds, none of which is an integer from 0 on."""
    return [
        None, True, False, -1, -(10 ** 999), "", "0", "01", b"", b"0", b"\x00\x01", [], [0], [0, 1], [(0, 1)], {},
        {0: 0}, {0: 1, 1: 0}, set(), {0}, {0, 1}, frozenset(), frozenset({0, 1}), object(), int, len, print, range(2),
        Network(1, ()), Network(2, ((0, 1),)), nested(), *deep_values(),
    ]


def odd_tuples():
    """Return tuples that are neither permutations nor pairs of places."""
    return [
        (None,), (True,), (False,), ("0",), (b"0",), ([],), ([0],), ((),), ((0,),), ({},), (-1,), (1,), (10 ** 999,),
        (0, 0), (1, 1), (0, 2), (1, 2), (0, True), (False, 1), (False, True), (True, False), (0, "1"), (0, None),
        (1, 0, 3), (0, 1, -1), (0, 1, 1), (-1, 0), (0, -1), (0, 1, 2, 4), (2, 1, 0, True), nested(99),
    ]


def small_networks():
    """Return all networks with at most three places and three passages."""
    networks = []
    for places in (1, 2, 3):
        pairs = [(u, v) for u in range(places) for v in range(u, places)]
        for many in range(4):
            for passages in itertools.product(pairs, repeat=many):
                if Network.is_valid(places, passages):
                    networks.append(Network(places, passages))
    return networks


def renamed(network, rng):
    """Return the network with other numbers of the passages and of the places but place 0."""
    names = [0, *rng.sample(range(1, network.places), network.places - 1)]
    passages = [tuple(sorted((names[u], names[v]))) for u, v in network.passages]
    return Network(network.places, tuple(rng.sample(passages, len(passages))))


def shapes(places, many):
    """Return the networks with so many places and passages, of those that differ by names alone only one."""
    orders = [(0, *order) for order in itertools.permutations(range(1, places))]
    pairs = [(u, v) for u in range(places) for v in range(u, places)]
    found = {}
    for passages in itertools.combinations_with_replacement(pairs, many):
        if Network.is_valid(places, passages):
            shape = min(sorted(sorted((order[u], order[v])) for u, v in passages) for order in orders)
            found.setdefault(str(shape), Network(places, passages))
    return list(found.values())


def networks_of_five():
    """Return networks of all shapes with at most four places and five passages, in a mixed order of the passages."""
    rng = random.Random(5)
    found = [network for places in range(1, 5) for many in range(6) for network in shapes(places, many)]
    return [renamed(network, rng) for network in found]


def special_networks():
    """Return networks with a part of the kind "special", entered at each of its places, by the hand and by a bridge."""
    rng = random.Random(26)
    found = []
    for missing in itertools.combinations(range(4), 2):
        pairs = [pair for pair in itertools.combinations(range(4), 2) if pair != missing]
        for _ in range(8):
            found.append(Network(4, tuple(rng.sample(pairs, 5))))
        further = [(u + 1, v + 1) for u, v in pairs]
        for entry in range(1, 5):
            for _ in range(2):
                found.append(Network(5, tuple(rng.sample([*further, (0, entry)], 6))))
    return found


def greatest_networks():
    """Return networks of about the greatest size, with several parts and with parts that are hard to sort."""
    special = [(0, 1), (1, 2), (2, 3), (0, 3), (0, 2)]
    four = [(4, 5), (5, 6), (6, 7), (4, 7), (4, 5)]
    ring = [(8, 9), (9, 10), (8, 10)]
    kinds = [*special, (4, 5), (4, 5), (4, 5), (6, 7), (6, 7), (7, 7), (8, 8), (2, 4), (5, 6), (1, 8), (8, 9)]
    petersen = [(k, (k + 1) % 5) for k in range(5)] + [(5 + k, 5 + (k + 2) % 5) for k in range(5)]
    petersen += [(k, k + 5) for k in range(5)]
    found = [
        (12, [*special, *four, *ring, (3, 6), (7, 9), (10, 11)]),
        (11, [*[(u + 7, v + 7) for u, v in special], *[(u - 4, v - 4) for u, v in four], (4, 5), (4, 5), (4, 4),
              (0, 10), (3, 4), (5, 6)]),
        (10, kinds),
        (10, [*petersen, (0, 0)]),
        (10, petersen),
        (8, [(u, v) for u in range(4) for v in range(4, 8)]),
        (12, [(k, (k + 1) % 12) for k in range(12)] + [(0, 6), (1, 7), (2, 8), (3, 9)]),
        (12, [(k, (k + 1) % 12) for k in range(12)] + [(0, 5), (1, 8), (3, 10), (7, 11)]),
        (12, [(0, 1), (1, 2), (0, 3), (3, 4), (4, 5), (2, 5), (0, 6), (6, 7), (7, 8), (8, 9), (9, 10), (10, 11),
              (2, 11)]),
        (12, [(k, (k + 1) % 12) for k in range(12)] + [(0, 0)]),
        (11, [(k, (k + 1) % 11) for k in range(11)] + [(0, 4)]),
        (12, [(k, (k + 1) % 6) for k in range(6)] + [(6 + k, 6 + (k + 1) % 6) for k in range(6)] + [(0, 6), (3, 9)]),
        (6, [(u, v) for u in range(6) for v in range(u + 1, 6)]),
        (4, [(u, v) for u in range(4) for v in range(u + 1, 4)]),
        (5, [(u, v) for u in range(5) for v in range(u + 1, 5)]),
        (2, [(0, 1)] * 16),
        (2, [(0, 1)] * 3),
        (1, [(0, 0)] * 16),
        (1, [(0, 0)] * 2),
    ]
    return [Network(places, tuple(tuple(sorted(pair)) for pair in pairs)) for places, pairs in found]


def random_state(network, rng, steps):
    """Return the state after a walk of so many steps that are chosen by chance, the walk itself, too."""
    place, things = 0, list(range(len(network.passages) + 1))
    walk = []
    for _ in range(steps if network.passages else 0):
        passage = rng.choice([e for e, ends in enumerate(network.passages) if place in ends])
        u, v = network.passages[passage]
        place = v if place == u else u
        things[passage], things[-1] = things[-1], things[passage]
        walk.append(passage)
    return (place, tuple(things)), tuple(walk)


def larger_networks():
    """Return networks of many shapes, up to the greatest numbers of places and passages."""
    ring = tuple((k, k + 1) for k in range(11)) + ((0, 11),)
    line = tuple((k, k + 1) for k in range(11))
    return [
        Network(1, ((0, 0),) * 16),
        Network(2, ((0, 1),) * 16),
        Network(2, ((0, 1), (1, 1), (0, 0))),
        Network(3, ((0, 1), (1, 2), (0, 2), (0, 1), (2, 2))),
        Network(4, ((0, 1), (1, 2), (2, 3), (0, 3), (0, 2))),
        Network(4, ((2, 3), (0, 1), (0, 1), (1, 2), (2, 3))),
        Network(5, ((0, 4), (1, 4), (2, 4), (3, 4))),
        Network(5, ((3, 4), (1, 2), (0, 1), (0, 3), (2, 4), (1, 1))),
        Network(6, ((0, 1), (1, 2), (0, 2), (2, 3), (3, 4), (4, 5), (3, 5))),
        Network(7, ((5, 6), (4, 5), (4, 6), (0, 3), (3, 4), (1, 3), (1, 2), (1, 2), (2, 2))),
        Network(8, ((0, 1), (2, 3), (4, 5), (6, 7), (0, 2), (1, 3), (4, 6), (5, 7), (0, 4), (1, 5), (2, 6), (3, 7))),
        Network(9, ((0, 5), (5, 8), (2, 8), (2, 7), (1, 7), (1, 6), (0, 6), (3, 4), (4, 8))),
        Network(12, line),
        Network(12, ring),
        Network(12, ring + ((0, 6), (2, 8), (3, 3), (0, 1))),
        Network(12, line + ((11, 11), (0, 0), (4, 5), (2, 9), (0, 0))),
    ]
