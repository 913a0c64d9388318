"""Which answers about a state are correct."""

import itertools
import random
import unittest

from handwalk.decisions import check_decision, decide
from handwalk.errors import InvalidAnswer
from handwalk.moves import after
from handwalk.networks import Network
from tests import oracle
from tests.samples import (
    QuickTestCase, deep_values, greatest_networks, networks_of_five, odd_tuples, odd_values, random_state,
)

A = Network(2, ((0, 1), (0, 1)))
B = Network(2, ((0, 1), (1, 1)))
EVEN = Network(2, ((0, 1), (0, 1), (0, 1)))
SPECIAL = Network(4, ((0, 1), (1, 2), (2, 3), (0, 3), (0, 2)))
# A ring at place 0, and behind bridges a part of the kind "even" and two loops.
MIXED = Network(6, ((0, 1), (3, 4), (0, 1), (1, 2), (2, 3), (3, 4), (3, 4), (4, 5), (5, 5), (5, 5)))
# A part of the kind "special" at place 0, and a ring behind a bridge.
TWO = Network(6, ((0, 1), (1, 2), (2, 3), (0, 3), (0, 2), (3, 4), (4, 5), (4, 5)))
WORDS = ("walk", "astray", "ring", "odd", "ratio")


def exchanged(network, *pairs):
    """Return the state at place 0 with the start's things after these have been exchanged."""
    things = list(range(len(network.passages) + 1))
    for x, y in pairs:
        things[x], things[y] = things[y], things[x]
    return 0, tuple(things)


class AnswerTestCase(QuickTestCase):
    def accept(self, network, state, answer):
        self.assertIs(check_decision(network, state, answer), answer[0])
        self.assertIs(check_decision(answer=answer, state=state, network=network), answer[0])

    def refuse(self, part, network, state, answer):
        for error in (
            self.caught(InvalidAnswer, check_decision, network, state, answer),
            self.caught(InvalidAnswer, check_decision, answer=answer, network=network, state=state),
        ):
            if part == "form":
                self.assertEqual(error.part, "form")
            else:
                self.assertIs(error.part, answer[0])
                self.assertEqual(error.part, part)

    def refuse_other_items(self, network, state, right):
        """Check that nothing of another kind is accepted in place of each item, no fewer items and no more."""
        self.accept(network, state, right)
        word = right[0]
        # This one is a tuple of four things, as an answer about ratios needs.
        tuples = [value for value in odd_tuples() if value != (0, 1, 2, 4)]
        for at in range(1, len(right)):
            for value in odd_values() + tuples + [99, 10 ** 999, [right[at]], (right[at],), str(right[at])]:
                self.refuse(word, network, state, (*right[:at], value, *right[at + 1:]))
                self.refuse(word, network, state, (*right[:at], value))
            self.refuse(word, network, state, right[:at])
            self.refuse(word, network, state, right[:at] + right[at + 1:] + (17,))
        for value in odd_values() + [0, 1, 2, (), word]:
            self.refuse(word, network, state, (*right, value))
        self.refuse("form", network, state, list(right))


class TestForm(AnswerTestCase):
    def test_what_has_no_form(self):
        values = odd_values() + odd_tuples() + [
            (), 0, 1, "walk", "form", ["walk", ()], {"walk": ()}, {"walk"}, (("walk", ()),), (["walk"], ()),
            ("form", ()), ("Walk", ()), ("walks", ()), ("", ()), ("no",), (b"walk", ()), (None, "walk"), (0, "walk"),
            ("wal", "k"), ("all", 0), ("even", 0), ("special", 0), ("walk ", ()),
        ]
        for network, state in ((A, A.start), (A, (0, (1, 0, 2))), (MIXED, exchanged(MIXED, (0, 1)))):
            for value in values:
                self.refuse("form", network, state, value)

    def test_words_alone(self):
        for network, state in ((A, A.start), (A, (0, (1, 0, 2))), (B, (0, (2, 1, 0))), (EVEN, exchanged(EVEN, (0, 1)))):
            for word in WORDS:
                self.refuse(word, network, state, (word,))

    def test_wrong_details_of_every_kind(self):
        for network, state in ((A, A.start), (A, (0, (1, 0, 2))), (B, (0, (2, 1, 0))),
                               (EVEN, exchanged(EVEN, (0, 1))), (SPECIAL, exchanged(SPECIAL, (0, 1)))):
            for word in WORDS:
                for value in odd_values():
                    self.refuse(word, network, state, (word, value))
                    self.refuse(word, network, state, (word, 0, value))
                    self.refuse(word, network, state, (word, value, value))
                    self.refuse(word, network, state, (word, 0, value, value))
                    self.refuse(word, network, state, (word, value, 0, 1))

    def test_words_for_other_answers(self):
        answers = [("walk", ()), ("astray", 0), ("ring", 0, 2, 0), ("odd", 0), ("ratio", 0, (0, 1, 2, 3))]
        for network, state, right in ((EVEN, EVEN.start, "walk"), (EVEN, exchanged(EVEN, (0, 1)), "odd"),
                                      (Network(3, ((0, 1), (0, 1), (1, 2))), (0, (2, 1, 0, 3)), "astray")):
            for answer in answers:
                if answer[0] == right:
                    self.accept(network, state, answer)
                else:
                    self.refuse(answer[0], network, state, answer)

    def test_right_details_with_another_word(self):
        for network, state in ((A, (0, (1, 0, 2))), (B, (0, (2, 1, 0))), (EVEN, exchanged(EVEN, (0, 1))),
                               (SPECIAL, exchanged(SPECIAL, (0, 1)))):
            right = decide(network, state)
            for word in WORDS:
                if word == right[0]:
                    self.accept(network, state, (word, *right[1:]))
                else:
                    self.refuse(word, network, state, (word, *right[1:]))

    def test_deep_values(self):
        for value in deep_values():
            for network, state in ((A, A.start), (A, (0, (1, 0, 2))), (SPECIAL, exchanged(SPECIAL, (0, 1)))):
                self.refuse("form", network, state, value)
                self.refuse("form", network, state, (value, value))
                for word in WORDS:
                    self.refuse(word, network, state, (word, value))
                    self.refuse(word, network, state, (word, (value, value)))
                    self.refuse(word, network, state, (word, 0, value))
                    self.refuse(word, network, state, (word, 0, (value,) * 4))
                    self.refuse(word, network, state, (word, value, value, value))

    def test_nothing_is_modified(self):
        answer = ["walk", [0, 1]]
        self.refuse("form", A, (0, (2, 0, 1)), answer)
        self.refuse("walk", A, (0, (2, 0, 1)), ("walk", answer[1]))
        self.assertEqual(answer, ["walk", [0, 1]])


class TestWalk(AnswerTestCase):
    def test_correct_walks(self):
        self.accept(A, (0, (2, 0, 1)), ("walk", (0, 1)))
        self.accept(A, A.start, ("walk", ()))
        self.accept(B, (1, (2, 0, 1)), ("walk", (0, 1)))

    def test_walks_to_other_states(self):
        self.refuse("walk", A, (0, (2, 0, 1)), ("walk", (1, 0)))
        self.refuse("walk", A, (0, (2, 0, 1)), ("walk", ()))
        self.refuse("walk", A, (0, (2, 0, 1)), ("walk", (0,)))
        self.refuse("walk", A, (0, (2, 0, 1)), ("walk", (0, 1, 0)))
        self.refuse("walk", A, (1, (0, 1, 2)), ("walk", ()))
        self.refuse("walk", A, (0, (1, 0, 2)), ("walk", ()))

    def test_what_is_no_walk(self):
        for steps in ([0, 1], (0, 2), (0, -1), (False, True), (0, True), (False, 1), (0, (1,)), (None,), ("0", "1"),
                      (0, 1, None), (0, 1, 2), (0, 1, 99), "01", 0, None, {0: 1}, {0, 1}, range(2), b"\x00\x01"):
            self.refuse("walk", A, (0, (2, 0, 1)), ("walk", steps))
        self.refuse("walk", B, B.start, ("walk", (1,)))
        self.refuse("walk", B, B.start, ("walk", (0, 0, 1)))
        self.refuse("walk", Network(1, ()), (0, (0,)), ("walk", (0,)))

    def test_the_number_of_items(self):
        self.refuse("walk", A, A.start, ("walk",))
        self.refuse("walk", A, A.start, ("walk", (), ()))
        self.refuse("walk", A, (0, (2, 0, 1)), ("walk", 0, 1))

    def test_equal_steps_in_succession(self):
        self.accept(A, (0, (2, 0, 1)), ("walk", (0, 0, 0, 1)))
        self.accept(A, A.start, ("walk", (1, 1)))
        self.accept(B, (0, (1, 0, 2)), ("walk", (0, 1, 1, 1, 0)))
        self.refuse("walk", A, (0, (2, 0, 1)), ("walk", (0, 0, 1)))

    def test_long_walks(self):
        self.accept(A, A.start, ("walk", (0,) * 2000))
        self.refuse("walk", A, A.start, ("walk", (0,) * 2001))
        rng = random.Random(1001)
        for network in (A, B, MIXED, SPECIAL, greatest_networks()[0]):
            for steps in (1001, 4000):
                state, walk = random_state(network, rng, steps)
                self.accept(network, state, ("walk", walk))
                self.refuse("walk", network, state, ("walk", walk + (walk[-1],)))
                self.refuse("walk", network, state, ("walk", walk + (99,)))
                self.refuse("walk", network, state, ("walk", list(walk)))

    def test_no_walk_leads_to_a_state_that_is_not_reachable(self):
        for steps in range(5):
            for walk in itertools.product(range(2), repeat=steps):
                self.refuse("walk", A, (0, (1, 0, 2)), ("walk", walk))


class TestAstray(AnswerTestCase):
    def test_all_things(self):
        for network, state in (
            (B, (0, (2, 1, 0))), (MIXED, exchanged(MIXED, (3, 9))), (MIXED, exchanged(MIXED, (0, 1), (5, 7))),
            (MIXED, (3, exchanged(MIXED, (0, 3), (7, 1))[1])), (TWO, exchanged(TWO, (0, 7))),
            (TWO, (4, exchanged(TWO, (5, 2))[1])), (A, (0, (1, 0, 2))), (MIXED, MIXED.start),
        ):
            described = oracle.described_parts(network)
            astray = oracle.astray(network, described, oracle.home(network, state))
            for thing in range(-1, len(network.passages) + 3):
                if thing in astray:
                    self.accept(network, state, ("astray", thing))
                else:
                    self.refuse("astray", network, state, ("astray", thing))

    def test_things_of_no_part(self):
        network = Network(4, ((0, 1), (1, 2), (2, 3)))
        self.accept(network, (0, (1, 0, 2, 3)), ("astray", 0))
        self.accept(network, (0, (1, 0, 2, 3)), ("astray", 1))
        self.refuse("astray", network, (0, (1, 0, 2, 3)), ("astray", 2))
        self.accept(network, (0, (3, 1, 2, 0)), ("astray", 3))
        # At place 1 the thing of the first passage is in the hand.
        self.refuse("astray", network, (1, (3, 1, 2, 0)), ("astray", 3))
        self.accept(network, (1, (0, 1, 2, 3)), ("astray", 3))

    def test_other_kinds_of_items(self):
        self.refuse_other_items(B, (0, (2, 1, 0)), ("astray", 2))
        self.refuse_other_items(MIXED, exchanged(MIXED, (3, 9)), ("astray", 3))

    def test_truth_values(self):
        network = Network(4, ((0, 1), (1, 2), (2, 3)))
        for value in (True, False):
            self.refuse("astray", network, (0, (1, 0, 2, 3)), ("astray", value))


class TestRing(AnswerTestCase):
    def test_all_parts_and_things(self):
        for network, state in (
            (A, (0, (1, 0, 2))), (A, (1, (0, 1, 2))), (A, A.start), (TWO, exchanged(TWO, (5, 6))),
            (TWO, (3, exchanged(TWO, (6, 7))[1])), (TWO, exchanged(TWO, (0, 6))), (MIXED, exchanged(MIXED, (0, 2))),
            (MIXED, exchanged(MIXED, (0, 2), (4, 5))), (MIXED, exchanged(MIXED, (0, 4))),
            (EVEN, exchanged(EVEN, (0, 1))),
            (Network(4, ((0, 3), (0, 1), (1, 2), (2, 3))), (0, (1, 0, 2, 3, 4))),
        ):
            described = oracle.described_parts(network)
            things = oracle.home(network, state)
            numbers = range(-1, len(network.passages) + 2)
            for part, x, y in itertools.product(numbers, repeat=3):
                answer = ("ring", part, x, y)
                if any(each.is_right(things, answer) for each in described):
                    self.accept(network, state, answer)
                else:
                    self.refuse("ring", network, state, answer)

    def test_other_kinds_of_items(self):
        self.refuse_other_items(A, (0, (1, 0, 2)), ("ring", 0, 0, 1))
        self.refuse_other_items(TWO, exchanged(TWO, (5, 6)), ("ring", 6, 5, 6))

    def test_truth_values(self):
        for details in ((False, 0, 1), (0, False, 1), (0, 0, True), (False, False, True)):
            self.refuse("ring", A, (0, (1, 0, 2)), ("ring", *details))

    def test_a_part_that_is_astray(self):
        network = Network(4, ((0, 1), (0, 1), (1, 2), (2, 3)))
        state = exchanged(network, (0, 2))
        self.accept(network, state, ("astray", 0))
        for x, y in itertools.product(range(5), repeat=2):
            self.refuse("ring", network, state, ("ring", 0, x, y))


class TestOdd(AnswerTestCase):
    def test_all_parts(self):
        for network, state in (
            (EVEN, EVEN.start), (EVEN, exchanged(EVEN, (0, 1))), (EVEN, exchanged(EVEN, (0, 1), (2, 3))),
            (EVEN, (1, (0, 1, 2, 3))), (MIXED, MIXED.start), (MIXED, exchanged(MIXED, (1, 5))),
            (MIXED, exchanged(MIXED, (4, 6))), (MIXED, exchanged(MIXED, (4, 6), (0, 3))),
            (MIXED, exchanged(MIXED, (4, 6), (5, 8))), (MIXED, exchanged(MIXED, (7, 8))),
            (MIXED, exchanged(MIXED, (0, 2))), (MIXED, (5, exchanged(MIXED, (1, 4))[1])),
            (SPECIAL, exchanged(SPECIAL, (0, 1))),
        ):
            described = oracle.described_parts(network)
            things = oracle.home(network, state)
            for part in range(-1, len(network.passages) + 2):
                answer = ("odd", part)
                if any(each.is_right(things, answer) for each in described):
                    self.accept(network, state, answer)
                else:
                    self.refuse("odd", network, state, answer)

    def test_other_kinds_of_items(self):
        self.refuse_other_items(EVEN, exchanged(EVEN, (0, 1)), ("odd", 0))
        self.refuse_other_items(MIXED, exchanged(MIXED, (4, 6)), ("odd", 1))

    def test_truth_values(self):
        self.accept(MIXED, exchanged(MIXED, (4, 6)), ("odd", 1))
        self.refuse("odd", MIXED, exchanged(MIXED, (4, 6)), ("odd", True))
        self.refuse("odd", EVEN, exchanged(EVEN, (0, 1)), ("odd", False))


class TestRatio(AnswerTestCase):
    def test_all_fours(self):
        for network, state in (
            (SPECIAL, SPECIAL.start), (SPECIAL, exchanged(SPECIAL, (0, 1))), (SPECIAL, (2, (5, 1, 2, 3, 0, 4))),
            (TWO, exchanged(TWO, (3, 8))), (TWO, exchanged(TWO, (3, 8), (6, 7))),
        ):
            [described] = [part for part in oracle.described_parts(network) if part.kind == "special"]
            things = oracle.home(network, state)
            for four in itertools.permutations(described.seats, 4):
                if described.keeps(things, four):
                    self.refuse("ratio", network, state, ("ratio", 0, four))
                else:
                    self.accept(network, state, ("ratio", 0, four))

    def right_four(self, network, state):
        """Return a correct answer."""
        answer = decide(network, state)
        self.assertEqual(answer[0], "ratio")
        return answer[2]

    def test_other_kinds_of_items(self):
        state = exchanged(SPECIAL, (0, 1))
        self.refuse_other_items(SPECIAL, state, ("ratio", 0, self.right_four(SPECIAL, state)))
        network = Network(5, ((0, 2), (1, 2), (2, 3), (3, 4), (1, 4), (1, 3)))
        state = exchanged(network, (0, 1))
        self.refuse_other_items(network, state, ("ratio", 1, self.right_four(network, state)))

    def test_other_fours(self):
        state = exchanged(SPECIAL, (0, 1))
        four = self.right_four(SPECIAL, state)
        x1, x2, x3, x4 = four
        for value in (
            list(four), four[:3], four + (5,), (x1, x2, x3, x3), (x1, x1, x2, x2), (x1, x2, x3, x1), (x1,) * 4,
            (x1, x2, x3, -1), (x1, x2, x3, 6), (x1, x2, x3, str(x4)), (x1, x2, x3, [x4]), (x1, x2, x3, None),
            (x1, x2, x3, 10 ** 999), (), ((x1, x2), (x3, x4)), set(four), {x: x for x in four}, four * 2, "0123", None,
        ):
            self.refuse("ratio", SPECIAL, state, ("ratio", 0, value))
        self.refuse("ratio", SPECIAL, state, ("ratio", 0, *four))
        self.refuse("ratio", SPECIAL, state, ("ratio", four))

    def test_truth_values(self):
        state = exchanged(SPECIAL, (0, 1))
        [described] = oracle.described_parts(SPECIAL)
        found = 0
        for four in itertools.permutations(range(6), 4):
            if not described.keeps(oracle.home(SPECIAL, state), four) and {0, 1} & set(four):
                changed = tuple({0: False, 1: True}.get(x, x) for x in four)
                self.refuse("ratio", SPECIAL, state, ("ratio", 0, changed))
                self.refuse("ratio", SPECIAL, state, ("ratio", False, four))
                found += 1
        self.assertGreater(found, 100)

    def test_things_of_other_parts(self):
        state = exchanged(TWO, (3, 8))
        x1, x2, x3, x4 = self.right_four(TWO, state)
        for thing in (5, 6, 7):
            for four in ((x1, x2, x3, thing), (thing, x2, x3, x4), (x1, thing, x3, x4)):
                self.refuse("ratio", TWO, state, ("ratio", 0, four))
        for part in (1, 2, 5, 6, 7, 8, -1):
            self.refuse("ratio", TWO, state, ("ratio", part, (x1, x2, x3, x4)))

    def test_a_part_that_is_astray(self):
        state = exchanged(TWO, (3, 6))
        for four in itertools.permutations((0, 1, 2, 3, 4, 8), 4):
            self.refuse("ratio", TWO, state, ("ratio", 0, four))
        self.accept(TWO, state, ("astray", 3))


class TestAgainstTheDocument(AnswerTestCase):
    def test_many_answers_of_small_networks(self):
        rng = random.Random(99)
        for network in networks_of_five()[::2]:
            described = oracle.described_parts(network)
            many = len(network.passages)
            for _ in range(3):
                state = (rng.randrange(network.places), tuple(rng.sample(range(many + 1), many + 1)))
                for answer in self.answers(many, rng):
                    if oracle.is_right(network, described, state, answer):
                        self.accept(network, state, answer)
                    else:
                        self.refuse(answer[0], network, state, answer)

    def answers(self, many, rng):
        numbers = range(many + 1)
        answers = [("astray", thing) for thing in numbers] + [("odd", part) for part in numbers]
        answers += [("ring", *rng.choices(numbers, k=3)) for _ in range(10)]
        if many >= 3:
            answers += [("ratio", rng.choice(numbers), tuple(rng.sample(numbers, 4))) for _ in range(5)]
        return answers + [("walk", tuple(rng.choices(numbers, k=rng.randrange(4)))) for _ in range(5)]

    def test_answers_of_decide(self):
        rng = random.Random(100)
        for network in (A, B, EVEN, SPECIAL, MIXED, TWO):
            for _ in range(60):
                state, _ = random_state(network, rng, 30)
                self.accept(network, state, decide(network, state))
                things = list(state[1])
                x, y = rng.randrange(len(things)), rng.randrange(len(things))
                things[x], things[y] = things[y], things[x]
                other = (state[0], tuple(things))
                self.accept(network, other, decide(network, other))

    def test_a_walk_there_and_on(self):
        rng = random.Random(101)
        for network in (A, B, EVEN, SPECIAL, MIXED, TWO):
            state, walk = random_state(network, rng, 25)
            for step in network.passages_at(state[0]):
                further = after(network, state, step)
                self.accept(network, further, ("walk", walk + (step,)))
                self.refuse("walk", network, further, ("walk", walk))


if __name__ == "__main__":
    unittest.main()
