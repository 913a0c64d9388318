"""Walkers of all classes against a plain record of what was done."""

import inspect
import itertools
import random
import unittest

from handwalk.errors import InvalidPassage, InvalidPosition, InvalidThing, InvalidWalk, LimitExceeded, NothingToUndo
from handwalk.moves import reduced
from handwalk.networks import Network
from handwalk.walkers import Carrier, Stroller, StrollingCarrier, Walker
from tests import oracle
from tests.records import CLASSES, Record, RecordMixin, records
from tests.samples import (
    QuickTestCase, deep_values, greatest_networks, larger_networks, networks_of_five, odd_tuples, odd_values,
    random_state, small_networks,
)

A = Network(2, ((0, 1), (0, 1)))
B = Network(2, ((0, 1), (1, 1)))
EMPTY = Network(1, ())


def not_steps(network):
    """Return values that are no passages of the network."""
    many = len(network.passages)
    return odd_values() + odd_tuples() + [many, many + 1, 16, 10 ** 999, (0,), [0]]


def new_walkers(network, *steps):
    """Return walkers of all classes with these steps."""
    return [
        Walker(network, *steps), Stroller(network, *steps), Carrier(network, *steps, thing=0, position=0),
        StrollingCarrier(network, *steps, thing=0, position=0),
    ]


class WalkerTestCase(QuickTestCase, RecordMixin):
    pass


class Changes(WalkerTestCase):
    """Changes that are drawn by chance."""

    def drawn_step(self, record, rng):
        steps = [step for step, _ in record.choices()]
        if record.steps and rng.random() < 0.3:
            return record.steps[-1]
        return rng.choice(steps) if steps else 0

    def drawn_walk(self, record, rng):
        """Return a walk from the present place, sometimes with a step that is none."""
        twin = record.twin()
        walk = []
        for _ in range(rng.randrange(7)):
            step = self.drawn_step(twin, rng)
            if twin.take(step) is None:
                walk.append(step)
        if rng.random() < 0.3:
            walk.insert(rng.randrange(len(walk) + 1), rng.choice(not_steps(record.network) + list(range(16))))
        return walk

    def try_walk(self, walker, record, walk):
        after, refused = record.after_any(walk)
        if refused is not None:
            self.assertEqual(self.caught(InvalidWalk, walker.walk, *walk).index, refused)
            return record
        self.assertIsNone(walker.walk(*walk))
        return after

    def try_peek(self, walker, record, walk):
        after, refused = record.after_any(walk)
        if refused is not None:
            self.assertEqual(self.caught(InvalidWalk, walker.peek, *walk).index, refused)
        else:
            self.assertEqual(walker.peek(*walk), after.state)
        return record

    def try_step(self, walker, record, step):
        after, refused = record.after_any([step])
        if refused is not None:
            self.assertIs(self.caught(InvalidPassage, walker.step, step).value, step)
            return record
        self.assertIsNone(walker.step(step))
        return after

    def try_back(self, walker, record):
        if not record.steps:
            self.caught(NothingToUndo, walker.back)
        else:
            self.assertIsNone(walker.back())
            record.back()
        return record

    def change(self, walker, record, rng):
        """Make one change that is drawn by chance, and return the record after it."""
        word = rng.choice(("step", "step", "odd step", "walk", "walk", "peek", "back"))
        if word == "step":
            return self.try_step(walker, record, self.drawn_step(record, rng))
        if word == "odd step":
            return self.try_step(walker, record, rng.choice(not_steps(record.network) + list(range(17))))
        if word == "walk":
            return self.try_walk(walker, record, self.drawn_walk(record, rng))
        if word == "peek":
            return self.try_peek(walker, record, self.drawn_walk(record, rng))
        return self.try_back(walker, record)


class TestChanges(Changes):
    def check_changes(self, network, rng, changes):
        for record in records(network, rng):
            walker = record.made()
            self.check_more(walker, record)
            for number in range(changes):
                record = self.change(walker, record, rng)
                self.check(walker, record)
                if number % 10 == 9:
                    self.check_more(walker, record)
                    self.check_copy(walker, record, rng)

    def check_copy(self, walker, record, rng):
        """Check that a copy is equal, and that it and the walker do not disturb each other."""
        twin = walker.copy()
        self.assertIsNot(twin, walker)
        self.assertTrue(twin == walker and walker == twin and not twin != walker)
        self.check_more(twin, record)
        other = record.twin()
        for _ in range(3):
            other = self.change(twin, other, rng)
        self.check(twin, other)
        self.check(walker, record)

    def test_small_networks(self):
        rng = random.Random(60)
        for network in small_networks():
            self.check_changes(network, rng, 40)

    def test_networks_of_five(self):
        rng = random.Random(61)
        for network in networks_of_five()[::7]:
            self.check_changes(network, rng, 60)

    def test_larger_networks(self):
        rng = random.Random(62)
        for network in larger_networks() + greatest_networks():
            self.check_changes(network, rng, 60)

    def test_many_changes(self):
        rng = random.Random(63)
        for network in (A, Network(3, ((0, 1), (1, 2), (0, 2), (1, 1)))):
            self.check_changes(network, rng, 500)


class TestConstructors(WalkerTestCase):
    def test_steps_of_the_constructor(self):
        rng = random.Random(64)
        for network in small_networks()[::3] + larger_networks():
            for record in records(network, rng):
                for steps in (0, 1, 2, 25):
                    _, walk = random_state(network, rng, steps)
                    after, _ = record.after(walk)
                    self.check_more(record.made(*walk), after)

    def test_new_walkers_are_at_the_start(self):
        for network in (EMPTY, A, B, larger_networks()[-1]):
            for walker in new_walkers(network):
                self.assertEqual((walker.state, walker.steps, len(walker)), (network.start, (), 0))
                self.assertIs(walker.is_home, True)

    def test_the_first_argument_that_is_no_step(self):
        for network in (EMPTY, A, B, larger_networks()[-1]):
            for value in not_steps(network):
                for maker in (Walker, Stroller):
                    self.assertEqual(self.caught(InvalidWalk, maker, network, value).index, 0)
                    if network.passages:
                        self.assertEqual(self.caught(InvalidWalk, maker, network, 0, 0, value, None).index, 2)
                for maker in (Carrier, StrollingCarrier):
                    error = self.caught(InvalidWalk, maker, network, value, thing=0, position=0)
                    self.assertEqual(error.index, 0)
        self.assertEqual(self.caught(InvalidWalk, Walker, B, 1).index, 0)
        self.assertEqual(self.caught(InvalidWalk, Walker, B, 0, 1, 1, 0, 1).index, 4)

    def test_by_name(self):
        self.assertEqual(Walker(network=A), Walker(A))
        self.assertEqual(Stroller(network=A), Stroller(A))
        for maker in (Carrier, StrollingCarrier):
            self.assertEqual(maker(position=1, thing=2, network=A), maker(A, thing=2, position=1))

    def test_the_task_is_passed_by_name_only(self):
        for maker in (Carrier, StrollingCarrier):
            self.assertRaises(TypeError, maker, A)
            self.assertRaises(TypeError, maker, A, thing=0)
            self.assertRaises(TypeError, maker, A, position=0)
            self.assertRaises(TypeError, maker, A, 0, 0)

    def test_wrong_things_and_positions(self):
        for network in (EMPTY, A, larger_networks()[-1]):
            many = len(network.passages) + 1
            values = odd_values() + odd_tuples() + [many, many + 1, 17, 10 ** 999, (0,)]
            for value, other in zip(values, values[5:] + values[:5]):
                for maker in (Carrier, StrollingCarrier):
                    for steps in ((), (99,), (None,) * 1001):
                        error = self.caught(InvalidThing, maker, network, *steps, thing=value, position=0)
                        self.assertIs(error.value, value)
                        error = self.caught(InvalidThing, maker, network, *steps, thing=value, position=other)
                        self.assertIs(error.value, value)
                        error = self.caught(InvalidPosition, maker, network, *steps, thing=many - 1, position=other)
                        self.assertIs(error.value, other)

    def test_the_classes(self):
        self.assertEqual(Walker.MAX_STEPS, 1000)
        self.assertEqual(Stroller.__bases__, (Walker,))
        self.assertEqual(Carrier.__bases__, (Walker,))
        self.assertEqual(StrollingCarrier.__bases__, (Stroller, Carrier))
        for walker in new_walkers(A):
            self.assertEqual(walker.MAX_STEPS, 1000)


class TestStepsThatAreNone(WalkerTestCase):
    def test_step(self):
        for network in (EMPTY, A, B, larger_networks()[-1]):
            for walker in new_walkers(network):
                for value in not_steps(network):
                    self.assertIs(self.caught(InvalidPassage, walker.step, value).value, value)
                    self.assertEqual(walker.steps, ())
        for walker in new_walkers(B, 0, 1):
            for value in (True, False, -1, 2, "1", None):
                self.assertIs(self.caught(InvalidPassage, walker.step, value).value, value)
            self.assertEqual(walker.steps, (0, 1))

    def test_a_passage_elsewhere(self):
        network = Network(3, ((0, 1), (1, 2), (2, 2)))
        for walker in new_walkers(network):
            for value in (1, 2):
                self.assertEqual(self.caught(InvalidPassage, walker.step, value).value, value)
                self.assertEqual(self.caught(InvalidWalk, walker.walk, value).index, 0)
                self.assertEqual(self.caught(InvalidWalk, walker.walk, 0, 0, value).index, 2)
                self.assertEqual(self.caught(InvalidWalk, walker.peek, 0, 1, 1, value, 0).index, 3 + (value == 1))
                self.assertEqual(walker.steps, ())

    def test_walk_and_peek(self):
        for network in (EMPTY, A, B, larger_networks()[-1]):
            for walker in new_walkers(network):
                for value in not_steps(network):
                    for call in (walker.walk, walker.peek):
                        self.assertEqual(self.caught(InvalidWalk, call, value).index, 0)
                        if network.passages:
                            self.assertEqual(self.caught(InvalidWalk, call, 0, 0, 0, value, 0).index, 3)
                    self.assertEqual((walker.state, walker.steps), (network.start, ()))

    def test_truth_values_that_are_equal_to_the_last_step(self):
        for maker in (Stroller, Walker):
            walker = maker(A, 0, 1)
            for value in (True, False):
                self.assertIs(self.caught(InvalidPassage, walker.step, value).value, value)
                self.assertEqual(self.caught(InvalidWalk, walker.walk, value).index, 0)
                self.assertEqual(self.caught(InvalidWalk, walker.peek, 1, value).index, 1)
                self.assertEqual(self.caught(InvalidWalk, maker, A, 0, 1, value).index, 2)
            self.assertEqual(walker.steps, (0, 1))

    def test_deep_values(self):
        for value in deep_values():
            for walker in new_walkers(A, 0):
                self.assertIs(self.caught(InvalidPassage, walker.step, value).value, value)
                self.assertEqual(self.caught(InvalidWalk, walker.walk, 0, value).index, 1)
                self.assertEqual(self.caught(InvalidWalk, walker.peek, value).index, 0)
                self.assertIs(walker == value, False)
            self.assertEqual(self.caught(InvalidWalk, Walker, A, 0, value).index, 1)

    def test_the_first_wrong_step_counts(self):
        for walker in new_walkers(A):
            self.assertEqual(self.caught(InvalidWalk, walker.walk, 0, None, True, 9).index, 1)
            self.assertEqual(self.caught(InvalidWalk, walker.peek, 0, 1, 9, None).index, 2)

    def test_by_name(self):
        for walker in new_walkers(A):
            walker.step(passage=1)
            self.assertEqual(walker.steps, (1,))


class TestBack(WalkerTestCase):
    def test_nothing_to_undo(self):
        for network in (EMPTY, A, B):
            for walker in new_walkers(network):
                self.caught(NothingToUndo, walker.back)
                self.assertEqual(walker.state, network.start)
        for walker in new_walkers(A, 0, 1):
            walker.back()
            walker.back()
            self.caught(NothingToUndo, walker.back)
            self.assertEqual((walker.state, walker.steps), (A.start, ()))

    def test_back_through_all_states(self):
        rng = random.Random(65)
        for network in larger_networks():
            for plain in records(network, rng):
                _, walk = random_state(network, rng, 30)
                record, _ = plain.after(walk)
                walker = record.made(*walk)
                while record.steps:
                    self.assertIsNone(walker.back())
                    record.back()
                    self.check(walker, record)

    def test_back_after_steps_that_removed_one(self):
        for walker in (Stroller(A, 0, 1, 1), StrollingCarrier(A, 0, 1, 1, thing=2, position=2)):
            self.assertEqual(walker.steps, (0,))
            walker.back()
            self.assertEqual((walker.steps, walker.state), ((), A.start))
            self.caught(NothingToUndo, walker.back)


class TestHistoryAndChoices(WalkerTestCase):
    def test_they_are_generators(self):
        for walker in new_walkers(A, 0):
            self.assertTrue(inspect.isgenerator(walker.history()))
            self.assertTrue(inspect.isgenerator(walker.choices()))

    def test_known_answers(self):
        walker = Walker(B, 0, 1)
        self.assertEqual(list(walker.history()), [(0, (0, 1, 2)), (1, (2, 1, 0)), (1, (2, 0, 1))])
        self.assertEqual(list(walker.choices()), [(0, (0, (1, 0, 2))), (1, (1, (2, 1, 0)))])
        self.assertEqual(list(Walker(EMPTY).history()), [(0, (0,))])
        self.assertEqual(list(Walker(EMPTY).choices()), [])

    def test_a_stroller_sees_the_states_of_a_walker(self):
        rng = random.Random(66)
        for network in larger_networks():
            _, walk = random_state(network, rng, 20)
            kept = reduced(*walk)
            for walker in new_walkers(network, *kept):
                self.assertEqual(list(walker.choices()), list(Walker(network, *kept).choices()))
            self.assertEqual(list(Stroller(network, *walk).history()), list(Walker(network, *kept).history()))

    def test_choices_lead_to_the_states_after_these_steps(self):
        for walker in new_walkers(larger_networks()[3], 0, 1, 4):
            for passage, state in walker.choices():
                twin = walker.copy()
                twin.step(passage)
                self.assertEqual((twin.state, walker.peek(passage)), (state, state))

    def test_two_of_them_in_turn(self):
        walker, stroller = Walker(A, 0, 1, 1), Stroller(A, 0, 1)
        pairs = list(itertools.zip_longest(walker.history(), stroller.history(), walker.choices(), stroller.choices()))
        for at, found in enumerate((walker.history(), stroller.history(), walker.choices(), stroller.choices())):
            expected = list(found)
            self.assertEqual([items[at] for items in pairs][:len(expected)], expected)

    def test_kinds_of_values(self):
        for walker in new_walkers(A, 0, 1):
            for state in walker.history():
                self.assertEqual([type(item) for item in (state, *state)], [tuple, int, tuple])
            for pair in walker.choices():
                self.assertEqual([type(item) for item in (pair, *pair)], [tuple, int, tuple])


class TestEquality(WalkerTestCase):
    def test_walkers_of_all_classes(self):
        walkers = []
        for network in (EMPTY, A, B, Network(2, ((0, 1), (0, 1), (1, 1)))):
            for steps in ((), (0,), (0, 0), (0, 1), (0, 1, 1), (1,)):
                for maker in CLASSES:
                    for thing, position in ((0, 0), (0, 1), (1, 0)):
                        record = Record(maker, network, thing, position)
                        after, _ = record.after(steps) if max(thing, position) <= len(network) else (None, None)
                        if after is not None:
                            task = (thing, position, after.arrivals) if after.carries else ()
                            key = (maker, network.places, network.passages, tuple(after.steps), task)
                            walkers.append((key, record.made(*steps)))
        for (left, walker), (right, other) in itertools.product(walkers, repeat=2):
            self.assertIs(walker == other, left == right)
            self.assertIs(walker != other, left != right)

    def test_networks_that_are_equal(self):
        twin = Network(2, ((0, 1), (0, 1)))
        for walker, other in zip(new_walkers(A, 0), new_walkers(twin, 0)):
            self.assertTrue(walker == other)

    def test_other_values(self):
        for walker in new_walkers(A, 0):
            for value in odd_values() + odd_tuples() + [walker.steps, walker.state, walker.text(), 1, A]:
                self.assertIs(walker == value, False)
                self.assertIs(value == walker, False)
                self.assertIs(walker != value, True)

    def test_a_value_that_is_equal_to_everything(self):
        class Yes:
            def __eq__(self, other):
                return True

        for walker in new_walkers(A):
            self.assertIs(walker == Yes(), False)

    def test_the_same_state_after_other_steps(self):
        self.assertFalse(Walker(A, 0, 0) == Walker(A))
        self.assertTrue(Stroller(A, 0, 0) == Stroller(A))
        self.assertFalse(Walker(A, 0, 0) == Walker(A, 1, 1))


class TestCopies(WalkerTestCase):
    def test_the_class(self):
        for walker in new_walkers(A, 0, 1):
            self.assertIs(type(walker.copy()), type(walker))
            self.assertTrue(walker.copy() == walker)

    def test_a_class_of_its_own(self):
        class Runner(Stroller):
            pass

        class Porter(StrollingCarrier):
            pass

        for walker in (Runner(A, 0, 1), Porter(A, 0, 1, thing=0, position=1)):
            self.assertIs(type(walker.copy()), type(walker))
            self.assertTrue(walker.copy() == walker)

    def test_changes_of_one_of_the_two(self):
        for walker in new_walkers(A, 0, 1):
            twin = walker.copy()
            twin.step(0)
            self.assertEqual((len(walker), len(twin)), (2, 3))
            walker.back()
            walker.back()
            self.assertEqual((walker.steps, twin.steps), ((), (0, 1, 0)))

    def test_arrivals_are_copied(self):
        carrier = Carrier(A, 0, 0, 0, thing=2, position=0)
        carrier.back()
        self.assertEqual(carrier.arrivals, 2)
        twin = carrier.copy()
        self.assertEqual((twin.arrivals, twin.steps), (2, (0, 0)))
        twin.step(0)
        self.assertEqual((twin.arrivals, carrier.arrivals), (3, 2))
        stroller = StrollingCarrier(A, 0, 0, 0, 0, thing=2, position=0)
        self.assertEqual((stroller.copy().arrivals, stroller.copy().steps), (2, ()))
        self.assertTrue(stroller.copy() == stroller)
        self.assertFalse(stroller == StrollingCarrier(A, thing=2, position=0))


class TestStrollers(WalkerTestCase):
    def test_equal_steps_cancel(self):
        stroller = Stroller(A, 0)
        stroller.step(0)
        self.assertEqual((stroller.steps, stroller.state), ((), A.start))
        stroller.walk(1, 0, 0, 1, 1)
        self.assertEqual((stroller.steps, stroller.state), ((1,), (1, (0, 2, 1))))
        stroller.walk(1, 0, 1, 1)
        self.assertEqual(stroller.steps, (0,))
        self.assertEqual(stroller.peek(0), A.start)
        self.assertEqual(stroller.peek(0, 0, 0, 1), Walker(A, 1).state)
        self.assertEqual(stroller.steps, (0,))
        self.assertEqual(Stroller(A, 0, 1, 1, 0, 1).steps, (1,))
        self.assertEqual(Stroller(B, 0, 1, 1, 1, 1, 0, 0).steps, (0,))

    def test_they_keep_what_reduced_returns(self):
        rng = random.Random(67)
        for network in small_networks() + larger_networks():
            for steps in (1, 5, 50):
                state, walk = random_state(network, rng, steps)
                whole = Stroller(network, *walk)
                self.assertEqual((whole.steps, whole.state), (reduced(*walk), state))
                walked, stepped = Stroller(network), Stroller(network)
                walked.walk(*walk)
                for step in walk:
                    stepped.step(step)
                self.assertTrue(whole == walked == stepped)

    def test_history_has_no_states_of_removed_steps(self):
        self.assertEqual(list(Stroller(A, 0, 1, 1).history()), [A.start, (1, (2, 1, 0))])


class TestCarriers(WalkerTestCase):
    def test_arrivals(self):
        # Thing 2 begins in the hand, at position 2.
        for maker in (Carrier, StrollingCarrier):
            carrier = maker(A, thing=2, position=0)
            self.assertEqual((carrier.arrivals, carrier.is_done, carrier.left()), (0, False, 1))
            carrier.step(0)
            self.assertEqual((carrier.arrivals, carrier.is_done, carrier.left()), (1, True, 0))
            carrier.back()
            self.assertEqual((carrier.arrivals, carrier.is_done), (1, False))
            carrier.walk(0, 0, 0)
            self.assertEqual((carrier.arrivals, carrier.is_done), (3, True))
            self.assertEqual(carrier.peek(0, 0), carrier.state)
            self.assertEqual(carrier.arrivals, 3)
            self.assertEqual(self.caught(InvalidWalk, carrier.walk, 0, 0, 2).index, 2)
            self.assertEqual((carrier.arrivals, carrier.is_done), (3, True))

    def test_a_thing_that_stays_does_not_arrive(self):
        carrier = Carrier(A, 0, 1, 0, 1, 0, 1, thing=0, position=0)
        self.assertEqual(carrier.arrivals, sum(
            after[1][0] == 0 != before[1][0] for before, after in itertools.pairwise(carrier.history())
        ))
        still = Carrier(B, 0, 1, 1, 1, thing=2, position=0)
        self.assertEqual((still.arrivals, still.is_done), (1, True))
        self.assertEqual(Carrier(A, thing=1, position=1).arrivals, 0)
        self.assertIs(Carrier(A, thing=1, position=1).is_done, True)

    def test_a_step_that_removes_the_last_one_arrives(self):
        carrier = StrollingCarrier(A, 0, thing=2, position=2)
        self.assertEqual((carrier.arrivals, carrier.is_done), (0, False))
        carrier.step(0)
        self.assertEqual((carrier.arrivals, carrier.is_done, carrier.steps), (1, True, ()))
        self.assertEqual(StrollingCarrier(A, 0, 0, 0, 0, thing=2, position=2).arrivals, 2)
        self.assertEqual(StrollingCarrier(A, 0, 0, 0, 0, thing=2, position=0).arrivals, 2)
        self.assertEqual(StrollingCarrier(A, 0, thing=2, position=0), StrollingCarrier(A, 0, thing=2, position=0))
        self.assertNotEqual(StrollingCarrier(A, 0, 0, 0, thing=2, position=0),
                            StrollingCarrier(A, 0, thing=2, position=0))

    def test_left(self):
        line = Network(3, ((0, 1), (1, 2)))
        for network, steps, thing, position, left in (
            (EMPTY, (), 0, 0, 0), (A, (), 2, 1, 1), (A, (0,), 2, 1, 2), (A, (), 0, 1, 2), (A, (0,), 0, 1, 1),
            (B, (), 2, 1, None), (B, (), 1, 0, 3), (B, (0,), 1, 0, 2), (B, (0, 1), 1, 0, 1), (B, (0, 1, 0), 1, 0, 0),
            (line, (), 0, 2, 1), (line, (), 0, 1, 2), (line, (0,), 0, 1, 1), (line, (0, 1), 0, 2, 1),
            (line, (), 1, 0, None), (line, (), 1, 2, 2), (line, (), 2, 0, 1), (line, (0,), 2, 2, 1),
        ):
            with self.subTest(passages=network.passages, steps=steps, thing=thing, position=position):
                for maker in (Carrier, StrollingCarrier):
                    carrier = maker(network, *steps, thing=thing, position=position)
                    walks = oracle.all_spots(network, (carrier.place, carrier.things.index(thing)))
                    lengths = [len(walk) for spot, walk in walks.items() if spot[1] == position]
                    self.assertEqual(min(lengths, default=None), left)
                    self.assertEqual(carrier.left(), left)

    def test_summary(self):
        carrier = Carrier(B, 0, 1, thing=1, position=0)
        self.assertEqual(carrier.summary(), (1, 1, 2, False, 1))
        carrier.step(0)
        self.assertEqual(carrier.summary(), (0, 2, 3, True, 0))
        self.assertEqual(StrollingCarrier(B, 0, 0, thing=2, position=1).summary(), (0, 2, 0, False, None))
        self.assertEqual(Walker(B, 0, 1).summary(), (1, 1, 2))
        self.assertEqual(Stroller(B, 0, 1, 1).summary(), (1, 0, 1))
        for walker in new_walkers(A, 0):
            self.assertIs(type(walker.summary()), tuple)


class TestLimit(WalkerTestCase):
    def full(self, network, many):
        """Return walkers of all classes with so many steps, no two equal ones in succession."""
        return new_walkers(network, *[k % 2 for k in range(many)])

    def test_constructors(self):
        for walker in self.full(A, 1000):
            self.assertEqual((len(walker), walker.place), (1000, 0))
        for steps in ((0, 1) * 500 + (0,), (0, 0) * 500 + (0,), (0,) * 5000, (None,) * 1001, (9,) + (0,) * 1000,
                      (0,) * 1000 + ("x",), (True,) * 1001):
            for maker in (Walker, Stroller):
                self.assertEqual(self.caught(LimitExceeded, maker, A, *steps).limit, 1000)
            for maker in (Carrier, StrollingCarrier):
                error = self.caught(LimitExceeded, maker, A, *steps, thing=0, position=0)
                self.assertEqual(error.limit, 1000)
        for maker in (Walker, Stroller):
            self.assertEqual(self.caught(InvalidWalk, maker, A, *[0] * 999, None).index, 999)

    def test_step(self):
        for walker in self.full(A, 999):
            walker.step(1)
            self.assertEqual((len(walker), walker.place), (1000, 0))
            self.assertEqual(self.caught(LimitExceeded, walker.step, 0).limit, 1000)
            for value in (2, -1, True, None, "0"):
                self.assertIs(self.caught(InvalidPassage, walker.step, value).value, value)
            self.assertEqual((len(walker), walker.steps[-1], walker.place), (1000, 1, 0))

    def test_the_last_step_again(self):
        for walker in self.full(A, 1000):
            before = walker.state
            if isinstance(walker, Stroller):
                self.assertEqual(walker.peek(1, 1, 1), walker.peek(1))
                walker.step(1)
                self.assertEqual(len(walker), 999)
                walker.walk(1, 1, 1)
                self.assertEqual((len(walker), walker.state), (1000, before))
                self.caught(LimitExceeded, walker.walk, 1, 1, 0)
                self.caught(LimitExceeded, walker.peek, 0, 0)
                self.caught(LimitExceeded, walker.walk, 0, 0)
                self.caught(LimitExceeded, walker.step, 0)
            else:
                for steps in ((1,), (1, 1), (0,)):
                    self.assertEqual(self.caught(LimitExceeded, walker.walk, *steps).limit, 1000)
                    self.assertEqual(self.caught(LimitExceeded, walker.peek, *steps).limit, 1000)
            self.assertEqual((len(walker), walker.state), (1000, before))

    def test_walk_and_peek(self):
        for walker in self.full(A, 990):
            before = walker.state
            walk = (0, 1) * 5
            for steps in (walk + (0,), walk + (0, 9), walk + (0, None), walk * 3):
                for call in (walker.walk, walker.peek):
                    self.assertEqual(self.caught(LimitExceeded, call, *steps).limit, 1000)
            for call in (walker.walk, walker.peek):
                self.assertEqual(self.caught(InvalidWalk, call, *walk, 9).index, 10)
                self.assertEqual(self.caught(InvalidWalk, call, *walk, None, 0).index, 10)
                self.assertEqual(self.caught(InvalidWalk, call, *walk[:9], 2, 0, 0).index, 9)
            self.assertEqual((len(walker), walker.state), (990, before))
            walker.walk(*walk)
            self.assertEqual(len(walker), 1000)
            self.assertEqual(walker.peek(), walker.state)
            self.assertIsNone(walker.walk())

    def test_more_than_a_thousand_steps_at_once(self):
        for walker in new_walkers(A):
            steps = (0, 1) * 600
            self.assertEqual(self.caught(LimitExceeded, walker.walk, *steps).limit, 1000)
            self.assertEqual(self.caught(LimitExceeded, walker.peek, *steps).limit, 1000)
            self.assertEqual(len(walker), 0)
        for walker in (Stroller(A), StrollingCarrier(A, thing=2, position=0)):
            walker.walk(*[0] * 5001)
            self.assertEqual(walker.steps, (0,))
            self.assertEqual(walker.peek(*[0] * 5001), A.start)

    def test_taking_back_makes_room(self):
        for walker in self.full(A, 1000):
            walker.back()
            self.assertEqual(len(walker), 999)
            walker.step(1)
            self.assertEqual(len(walker), 1000)
            walker.back()
            walker.back()
            walker.walk(0, 1)
            self.assertEqual(self.caught(LimitExceeded, walker.step, 0).limit, 1000)

    def test_history_choices_and_copies_at_the_limit(self):
        for walker in self.full(A, 1000):
            self.assertEqual(len(list(walker.history())), 1001)
            self.assertEqual([passage for passage, _ in walker.choices()], [0, 1])
            self.assertEqual(list(walker.choices())[0][1], oracle.step_from(A, walker.state, 0))
            self.assertTrue(walker.copy() == walker)

    def test_refused_walks_do_not_count_arrivals(self):
        for maker in (Carrier, StrollingCarrier):
            carrier = maker(A, *[0, 1] * 499, thing=2, position=0)
            arrivals = carrier.arrivals
            self.assertTrue(arrivals > 100)
            self.caught(LimitExceeded, carrier.walk, 0, 1, 0, 1, 0, 1, 0, 1)
            self.caught(LimitExceeded, carrier.peek, 0, 1, 0, 1, 0, 1, 0, 1)
            self.assertEqual((carrier.arrivals, len(carrier)), (arrivals, 998))


if __name__ == "__main__":
    unittest.main()
