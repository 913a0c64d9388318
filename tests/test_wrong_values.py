"""Wrong values at every parameter of the whole program, arguments by name, and what calls must not do."""

import copy
import unittest

from handwalk import errors
from handwalk.bringing import bring, reachable_spots
from handwalk.console import Console
from handwalk.decisions import check_decision, decide, is_reachable, parts
from handwalk.kinds import count_patterns, match
from handwalk.listing import count_arrangements, count_states, farthest, states, walk_to
from handwalk.moves import after, check_state, effect, trace
from handwalk.networks import Network
from handwalk.permutations import compose, cycles, inverse, is_even, is_permutation, order
from handwalk.walkers import Carrier, Stroller, StrollingCarrier, Walker
from tests.samples import QuickTestCase, deep_values, odd_tuples, odd_values

A = Network(2, ((0, 1), (0, 1)))
THINGS = (0, 1, 2)


def walkers():
    """Return walkers of all classes who have taken two steps."""
    return [
        Walker(A, 0, 1), Stroller(A, 0, 1), Carrier(A, 0, 1, thing=2, position=0),
        StrollingCarrier(A, 0, 1, thing=2, position=0),
    ]


# Each entry: a call with a wrong value, the class of the exception, and its fields; THIS stands for the very value.
THIS = object()
CALLS = {
    "Network, places": (lambda v: Network(v, ()), "InvalidNetwork", {"part": "places", "index": None}),
    "Network, places by name": (lambda v: Network(passages=(), places=v), "InvalidNetwork", {"part": "places"}),
    "Network, a passage": (lambda v: Network(2, ((0, 1), v)), "InvalidNetwork", {"part": "passages", "index": 1}),
    "Network, an end": (lambda v: Network(2, ((v, 1),)), "InvalidNetwork", {"part": "passages", "index": 0}),
    "joined": (lambda v: Network.joined((0, 1), (0, 0), v), "InvalidNetwork", {"part": "passages", "index": 2}),
    "passages_at": (A.passages_at, "InvalidPlace", {"value": THIS}),
    "passages_at by name": (lambda v: A.passages_at(place=v), "InvalidPlace", {"value": THIS}),
    "far_end, passage": (lambda v: A.far_end(v, 0), "InvalidPassage", {"value": THIS}),
    "far_end, both": (lambda v: A.far_end(place=v, passage=v), "InvalidPassage", {"value": THIS}),
    "far_end, place": (lambda v: A.far_end(1, v), "InvalidPlace", {"value": THIS}),
    "way, place": (lambda v: A.way(v, None), "InvalidPlace", {"value": THIS}),
    "way, goal": (lambda v: A.way(goal=v, place=0), "InvalidPlace", {"value": THIS}),
    "check_state, state": (lambda v: check_state(A, v), "InvalidState", {"part": "form"}),
    "check_state, place": (lambda v: check_state(A, (v, THINGS)), "InvalidState", {"part": "place"}),
    "check_state, things": (lambda v: check_state(A, (0, v)), "InvalidState", {"part": "arrangement"}),
    "check_state, a thing": (lambda v: check_state(A, (0, (0, v, 2))), "InvalidState", {"part": "arrangement"}),
    "trace, state": (lambda v: next(trace(A, v, None)), "InvalidState", {"part": "form"}),
    "trace, a step": (lambda v: list(trace(A, A.start, 0, v)), "InvalidWalk", {"index": 1}),
    "after, state": (lambda v: after(A, v, None), "InvalidState", {"part": "form"}),
    "after, place": (lambda v: after(A, (v, v)), "InvalidState", {"part": "place"}),
    "after, a step": (lambda v: after(A, A.start, 1, 1, v, v), "InvalidWalk", {"index": 2}),
    "effect, place": (lambda v: effect(A, v, None), "InvalidPlace", {"value": THIS}),
    "effect, a step": (lambda v: effect(A, 1, v), "InvalidWalk", {"index": 0}),
    "is_reachable, state": (lambda v: is_reachable(A, v), "InvalidState", {"part": "form"}),
    "is_reachable, things": (lambda v: is_reachable(state=(1, v), network=A), "InvalidState", {"part": "arrangement"}),
    "decide, state": (lambda v: decide(A, v), "InvalidState", {"part": "form"}),
    "decide, place": (lambda v: decide(A, (v, THINGS)), "InvalidState", {"part": "place"}),
    "check_decision, state": (lambda v: check_decision(A, v, v), "InvalidState", {"part": "form"}),
    "check_decision, answer": (lambda v: check_decision(A, A.start, v), "InvalidAnswer", {"part": "form"}),
    "check_decision, the word": (lambda v: check_decision(A, A.start, (v, ())), "InvalidAnswer", {"part": "form"}),
    "check_decision, a walk": (lambda v: check_decision(A, A.start, ("walk", v)), "InvalidAnswer", {"part": "walk"}),
    "check_decision, a step": (
        lambda v: check_decision(A, A.start, ("walk", (0, 0, v))), "InvalidAnswer", {"part": "walk"}),
    "check_decision, a thing": (
        lambda v: check_decision(A, A.start, ("astray", v)), "InvalidAnswer", {"part": "astray"}),
    "check_decision, a part": (
        lambda v: check_decision(A, A.start, ("ring", v, v, v)), "InvalidAnswer", {"part": "ring"}),
    "check_decision, an odd part": (
        lambda v: check_decision(A, A.start, ("odd", v)), "InvalidAnswer", {"part": "odd"}),
    "check_decision, four things": (
        lambda v: check_decision(A, A.start, ("ratio", 0, v)), "InvalidAnswer", {"part": "ratio"}),
    "walk_to, state": (lambda v: walk_to(A, v), "InvalidState", {"part": "form"}),
    "walk_to, things": (lambda v: walk_to(state=(0, v), network=A), "InvalidState", {"part": "arrangement"}),
    "compose, one": (compose, "InvalidPermutation", {"value": THIS}),
    "compose, the second": (lambda v: compose((0,), v, (1,)), "InvalidPermutation", {"value": THIS}),
    "inverse": (inverse, "InvalidPermutation", {"value": THIS}),
    "cycles": (lambda v: cycles(permutation=v), "InvalidPermutation", {"value": THIS}),
    "order": (order, "InvalidPermutation", {"value": THIS}),
    "is_even": (lambda v: is_even(permutation=v), "InvalidPermutation", {"value": THIS}),
    "reachable_spots": (lambda v: reachable_spots(A, v), "InvalidThing", {"value": THIS}),
    "bring, thing": (lambda v: bring(A, v, None, place=True), "InvalidThing", {"value": THIS}),
    "bring, position": (lambda v: bring(position=v, thing=2, place=v, network=A), "InvalidPosition", {"value": THIS}),
    "bring, place": (lambda v: bring(A, 0, 0, place=v), "InvalidPlace", {"value": THIS}),
    "match, kinds": (lambda v: match(A, v, None), "InvalidKinds", {"part": "kinds", "index": None}),
    "match, a kind": (lambda v: match(A, (0, v, None), None), "InvalidKinds", {"part": "kinds", "index": 1}),
    "match, pattern": (lambda v: match(A, THINGS, v), "InvalidKinds", {"part": "pattern", "index": None}),
    "match, an item": (
        lambda v: match(pattern=(9, 9, v), kinds=THINGS, network=A), "InvalidKinds", {"part": "pattern", "index": 2}),
    "count_patterns": (lambda v: count_patterns(kinds=v, network=A), "InvalidKinds", {"part": "kinds", "index": None}),
    "count_patterns, a kind": (
        lambda v: count_patterns(A, (v, v, 0)), "InvalidKinds", {"part": "kinds", "index": 0}),
    "Walker": (lambda v: Walker(A, 0, v), "InvalidWalk", {"index": 1}),
    "Stroller": (lambda v: Stroller(A, v, 0), "InvalidWalk", {"index": 0}),
    "Carrier, thing": (lambda v: Carrier(A, None, thing=v, position=None), "InvalidThing", {"value": THIS}),
    "Carrier, position": (lambda v: Carrier(A, None, thing=0, position=v), "InvalidPosition", {"value": THIS}),
    "Carrier, a step": (lambda v: Carrier(A, v, thing=0, position=0), "InvalidWalk", {"index": 0}),
    "StrollingCarrier, thing": (
        lambda v: StrollingCarrier(A, 0, position=None, thing=v), "InvalidThing", {"value": THIS}),
    "StrollingCarrier, position": (
        lambda v: StrollingCarrier(A, 0, position=v, thing=0), "InvalidPosition", {"value": THIS}),
    "StrollingCarrier, a step": (
        lambda v: StrollingCarrier(A, 1, 1, v, position=0, thing=0), "InvalidWalk", {"index": 2}),
    "step": (lambda v: walkers()[0].step(v), "InvalidPassage", {"value": THIS}),
    "step of a stroller": (lambda v: walkers()[1].step(passage=v), "InvalidPassage", {"value": THIS}),
    "step of a carrier": (lambda v: walkers()[2].step(passage=v), "InvalidPassage", {"value": THIS}),
    "walk": (lambda v: walkers()[0].walk(0, 0, v), "InvalidWalk", {"index": 2}),
    "walk of a stroller": (lambda v: walkers()[1].walk(1, v), "InvalidWalk", {"index": 1}),
    "walk of a strolling carrier": (lambda v: walkers()[3].walk(1, v), "InvalidWalk", {"index": 1}),
    "peek": (lambda v: walkers()[2].peek(v, None), "InvalidWalk", {"index": 0}),
    "peek of a strolling carrier": (lambda v: walkers()[3].peek(0, v, None), "InvalidWalk", {"index": 1}),
}
TEXT_CALLS = {
    "read": (Walker.read, "ParseError", {"line": 0, "word": 0}),
    "read of a stroller": (lambda v: Stroller.read(text=v), "ParseError", {"line": 0, "word": 0}),
}

# Values that are right, or wrong in another way, for some of the calls.
FITTING = {
    "Network, a passage": ((0, 0), (1, 1), (0, 1)),
    "joined": ((0, 0), (1, 1), (0, 1), (0, 2), (1, 2)),
    "compose, one": ((), (0,)),
    "compose, the second": ((), (0,)),
    "inverse": ((),),
    "cycles": ((),),
    "order": ((),),
    "is_even": ((),),
    "bring, place": (None,),
    "check_decision, a walk": ((0, 0), (1, 1)),
}


def is_pair(value):
    return isinstance(value, tuple) and len(value) == 2


def wrong_values(name):
    """Return the values that are wrong for the call of this name."""
    values = odd_values() + odd_tuples()
    if name.endswith(", state"):
        values = [value for value in values if not is_pair(value)]
    if name in ("match, kinds", "match, pattern", "count_patterns"):
        values = [value for value in values if not (isinstance(value, tuple) and len(value) == 3)]
    few = FITTING.get(name, ())
    return [value for value in values if not any(is_same(value, right) for right in few)]


def is_same(value, right):
    """Return True if both are equal, also in the kinds of their items; only short tuples are compared."""
    if type(value) is not type(right) or type(value) is not tuple or len(value) != len(right):
        return value is right
    return all(type(item) is int and item == other for item, other in zip(value, right))


class TestWrongValues(QuickTestCase):
    def check(self, name, call, word, fields, value):
        with self.subTest(name):
            error = self.caught(getattr(errors, word), call, value)
            for field, expected in fields.items():
                if expected is THIS:
                    self.assertIs(getattr(error, field), value)
                else:
                    self.assertEqual(getattr(error, field), expected)
            self.assertTrue(len(str(error)) < 200)

    def test_values_of_many_kinds(self):
        for name, (call, word, fields) in CALLS.items():
            for value in wrong_values(name):
                self.check(name, call, word, fields, value)

    def test_values_with_very_many_parts(self):
        for name, (call, word, fields) in CALLS.items():
            for value in deep_values():
                if not (name.endswith(", state") and is_pair(value)):
                    self.check(name, call, word, fields, value)

    def test_deep_pairs_as_states(self):
        for value in deep_values():
            if is_pair(value):
                for call in (check_state, after, is_reachable, decide, walk_to, lambda *v: next(trace(*v))):
                    error = self.caught(errors.InvalidState, call, A, value)
                    self.assertIn(error.part, ("place", "arrangement"))

    def test_values_that_are_no_texts(self):
        for name, (call, word, fields) in TEXT_CALLS.items():
            for value in odd_values() + odd_tuples() + deep_values():
                if not isinstance(value, str):
                    self.check(name, call, word, fields, value)

    def test_functions_that_accept_any_value(self):
        for value in odd_values() + odd_tuples() + deep_values():
            if not (type(value) is tuple and (not value or is_same(value, (0,)))):
                self.assertIs(is_permutation(value), False)
            self.assertIs(Network.is_valid(value, ()), False)
            self.assertIs(Network.is_valid(2, (value, [0, 1])), False)
            self.assertIs(Walker.is_text(value), False)
            self.assertIs(StrollingCarrier.is_text(value=value), False)
            self.assertEqual(Console().run(value), "bad command")
            for walker in walkers():
                self.assertIs(walker == value, False)
            if type(value) is not Network:
                self.assertIs(A == value, False)

    def test_numbers_of_another_network(self):
        for call in (lambda v: reachable_spots(A, v), lambda v: Carrier(A, thing=v, position=0)):
            self.assertEqual(self.caught(errors.InvalidThing, call, 3).value, 3)
        for call in (lambda v: bring(A, 0, v), lambda v: Carrier(A, thing=0, position=v)):
            self.assertEqual(self.caught(errors.InvalidPosition, call, 3).value, 3)
        for call in (A.passages_at, lambda v: bring(A, 0, 0, place=v), lambda v: effect(A, v)):
            self.assertEqual(self.caught(errors.InvalidPlace, call, 2).value, 2)

    def test_a_call_that_raises_changes_no_walker(self):
        for before, walker in zip(walkers(), walkers()):
            for value in odd_values() + deep_values():
                self.caught(errors.InvalidPassage, walker.step, value)
                self.caught(errors.InvalidWalk, walker.walk, 0, 0, value)
                self.caught(errors.InvalidWalk, walker.peek, 1, value)
                self.caught(errors.InvalidWalk, Walker, A, value)
            self.assertTrue(walker == before)
            self.assertEqual(walker.summary(), before.summary())


class TestNothingIsModified(QuickTestCase):
    def test_arguments(self):
        for name, (call, word, _) in {**CALLS, **TEXT_CALLS}.items():
            for value in ([], [0], [0, 1, 2], [[0, 1], [1, 0]], {0: [1]}, {"a": {}}, [(0, (0, 1, 2))]):
                before = copy.deepcopy(value)
                with self.subTest(name):
                    self.caught(getattr(errors, word), call, value)
                    self.assertEqual(value, before)

    def check_fixed(self, value):
        """Check that the value consists of tuples, integers and the like, so that nobody can modify it."""
        self.assertIn(type(value), (tuple, int, str, bool, type(None)))
        if type(value) is tuple:
            for item in value:
                self.check_fixed(item)

    def test_what_is_returned_cannot_be_modified(self):
        for network in (Network(1, ()), A, Network(4, ((0, 1), (1, 2), (2, 3), (0, 3), (0, 2)))):
            things = network.start[1]
            kinds = tuple([thing // 2 for thing in things])
            for value in (
                network.passages, network.start, network.bridges, network.cells, network.way(0, network.places - 1),
                network.passages_at(0), decide(network, network.start), decide(network, (0, things[::-1])),
                farthest(network), walk_to(network, network.start), count_states(network), count_arrangements(network),
                *states(network), reachable_spots(network, 0), bring(network, 0, 0), match(network, kinds, kinds),
                Walker(network).state, Walker(network).steps, Walker(network).summary(), Walker(network).text(),
                *Walker(network).history(), *Walker(network).choices(),
                Carrier(network, thing=0, position=0).summary(),
                *[part.seats for part in parts(network)], *[part.cell for part in parts(network)],
            ):
                self.check_fixed(value)

    def test_lists_in_which_answers_are_collected(self):
        first, second = list(states(A)), list(states(A))
        first.clear()
        self.assertEqual(list(states(A)), second)
        walker = Walker(A, 0)
        found = list(walker.history())
        found.append(None)
        self.assertEqual(len(list(walker.history())), 2)


class TestNames(QuickTestCase):
    def test_arguments_by_name_in_another_order(self):
        state = (0, (2, 0, 1))
        for by_position, by_name in (
            (Network(2, ((0, 1),)), Network(passages=((0, 1),), places=2)),
            (Network.is_valid(2, ()), Network.is_valid(passages=(), places=2)),
            (A.far_end(1, 0), A.far_end(place=0, passage=1)),
            (A.way(1, 0), A.way(goal=0, place=1)),
            (after(A, state), after(state=state, network=A)),
            (list(trace(A, state)), list(trace(state=state, network=A))),
            (effect(A, 1), effect(place=1, network=A)),
            (check_state(A, state), check_state(state=state, network=A)),
            (decide(A, state), decide(state=state, network=A)),
            (is_reachable(A, state), is_reachable(state=state, network=A)),
            (check_decision(A, state, ("walk", (0, 1))),
             check_decision(answer=("walk", (0, 1)), state=state, network=A)),
            (walk_to(A, state), walk_to(state=state, network=A)),
            (count_states(A), count_states(network=A)),
            (reachable_spots(A, 2), reachable_spots(thing=2, network=A)),
            (bring(A, 2, 1), bring(position=1, thing=2, network=A)),
            (bring(A, 2, 1, place=0), bring(place=0, position=1, thing=2, network=A)),
            (match(A, (5, 5, 7), (7, 5, 5)), match(pattern=(7, 5, 5), kinds=(5, 5, 7), network=A)),
            (count_patterns(A, (5, 5, 7)), count_patterns(kinds=(5, 5, 7), network=A)),
            (Carrier(A, thing=1, position=2), Carrier(position=2, thing=1, network=A)),
            (Walker.read("network 1\nwalk"), Walker.read(text="network 1\nwalk")),
            (Walker.is_text("network 1\nwalk"), Walker.is_text(value="network 1\nwalk")),
            (Console().run("state"), Console().run(command="state")),
        ):
            self.assertEqual(by_position, by_name)


if __name__ == "__main__":
    unittest.main()
