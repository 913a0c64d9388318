"""Walkers, who have a network, a state and the steps that led to it ([60])."""

from handwalk.bringing import bring_from, check_position, check_thing
from handwalk.errors import InvalidPassage, InvalidWalk, LimitExceeded, NothingToUndo, ParseError
from handwalk.moves import after_step, is_step, trace
from handwalk.texts import parsed, written


class Walker:
    """A walker who keeps every step."""

    MAX_STEPS = 1000

    def __init__(self, network, *steps):
        if len(steps) > Walker.MAX_STEPS:
            raise LimitExceeded(Walker.MAX_STEPS)
        self._network = network
        self._state = network.start
        self._steps = ()
        self.walk(*steps)

    @property
    def network(self):
        """The network."""
        return self._network

    @property
    def state(self):
        """The pair of the place and the arrangement."""
        return self._state

    @property
    def place(self):
        """The place of the walker."""
        return self._state[0]

    @property
    def things(self):
        """The arrangement of the things."""
        return self._state[1]

    @property
    def hand(self):
        """The thing in the hand."""
        return self._state[1][-1]

    @property
    def steps(self):
        """The tuple of the steps, which lead from the start to the state."""
        return self._steps

    @property
    def is_home(self):
        """True if the state is the start."""
        return self._state == self._network.start

    def __len__(self):
        return len(self._steps)

    def __eq__(self, other):
        return type(self) is type(other) and self._network == other._network and self._steps == other._steps

    def step(self, passage):
        """Take a step."""
        if not is_step(self._network, self._state[0], passage):
            raise InvalidPassage(passage)
        self.walk(passage)

    def walk(self, *steps):
        """Take all these steps, or none of them if an exception is raised."""
        passed, kept = self._ahead(steps)
        self._go(passed, kept)

    def peek(self, *steps):
        """Return the state after these steps, without taking them."""
        passed, _ = self._ahead(steps)
        return passed[-1]

    def back(self):
        """Take back the last step of the tuple."""
        if not self._steps:
            raise NothingToUndo()
        # The same step once more restores the state before it ([20]).
        self._state = after_step(self._network, self._state, self._steps[-1])
        self._steps = self._steps[:-1]

    def history(self):
        """Yield the states after 0, 1, 2, ... steps of the tuple."""
        start = self._network.start
        yield from trace(self._network, start, *self._steps)

    def choices(self):
        """Yield the pairs of every possible next step and the state after it."""
        state = self._state
        for passage in self._network.passages_at(state[0]):
            yield (passage, after_step(self._network, state, passage))

    def summary(self):
        """Return the tuple of the place, the thing in the hand and the number of steps."""
        return (self._state[0], self._state[1][-1], len(self._steps))

    def copy(self):
        """Return an equal walker of the same class."""
        return self._made(self._network, self._steps)

    def text(self):
        """Return the text of the walker."""
        return written(self._network, self._steps)

    @classmethod
    def read(cls, text):
        """Return a walker of this class with the network and the steps of a text."""
        network, steps = parsed(text, Walker.MAX_STEPS)
        return cls(network, *steps)

    @staticmethod
    def is_text(value):
        """Return True if the value is the text of a walker, and False otherwise, for any value."""
        try:
            parsed(value, Walker.MAX_STEPS)
        except ParseError:
            return False
        return True

    @classmethod
    def _made(cls, network, steps):
        return cls(network, *steps)

    def _ahead(self, steps):
        """Return the list of the states from now on until after these steps, and the tuple of the steps kept then."""
        passed = [self._state]
        kept = self._steps
        for index, step in enumerate(steps):
            if not is_step(self._network, passed[-1][0], step):
                raise InvalidWalk(index)
            kept = self._kept_after(kept, step)
            if len(kept) > Walker.MAX_STEPS:
                raise LimitExceeded(Walker.MAX_STEPS)
            passed.append(after_step(self._network, passed[-1], step))
        return passed, kept

    def _kept_after(self, kept, step):
        """Return the tuple of the steps that are kept after a further step."""
        return kept + (step,)

    def _go(self, passed, kept):
        """Pass through these states, the first of which is the present one, and keep these steps."""
        self._state = passed[-1]
        self._steps = kept


class Stroller(Walker):
    """A walker who never keeps the same step twice in succession.

    The document describes step, walk and peek for strollers once more, so they stand in this class, too.
    """

    def step(self, passage):
        """Take a step; one that is equal to the last one removes it instead."""
        super().step(passage)

    def walk(self, *steps):
        """Take all these steps one by one, or none of them if an exception is raised."""
        super().walk(*steps)

    def peek(self, *steps):
        """Return the state after these steps, without taking them."""
        return super().peek(*steps)

    def _kept_after(self, kept, step):
        """Return the tuple of the steps that are kept after a further step."""
        if kept and kept[-1] == step:
            return kept[:-1]
        return super()._kept_after(kept, step)


class Carrier(Walker):
    """A walker with a task: to bring a thing to a position."""

    def __init__(self, network, *steps, thing, position):
        check_thing(network, thing)
        check_position(network, position)
        self._thing = thing
        self._position = position
        self._arrivals = 0
        super().__init__(network, *steps)

    @property
    def thing(self):
        """The thing that is to be brought to the position."""
        return self._thing

    @property
    def position(self):
        """The position to which the thing is to be brought."""
        return self._position

    @property
    def is_done(self):
        """True if the thing is at the position."""
        return self._state[1][self._position] == self._thing

    @property
    def arrivals(self):
        """How many of the steps that were taken brought the thing to the position."""
        return self._arrivals

    def __eq__(self, other):
        return (type(self) is type(other) and self._network == other._network and self._steps == other._steps
                and self._thing == other._thing and self._position == other._position
                and self._arrivals == other._arrivals)

    def left(self):
        """Return the least number of further steps after which the thing is at the position, or None."""
        place, things = self._state
        walk = bring_from(self._network, (place, things.index(self._thing)), self._position, None)
        return None if walk is None else len(walk)

    def summary(self):
        """Return the summary of a walker, followed by is_done and the result of left."""
        return (*super().summary(), self.is_done, self.left())

    def copy(self):
        """Return an equal carrier of the same class."""
        twin = self._made_for(self._network, self._steps, self._thing, self._position)
        # Steps that were taken back or removed may have arrived, too.
        twin._arrivals = self._arrivals
        return twin

    @classmethod
    def _made_for(cls, network, steps, thing, position):
        return cls(network, *steps, thing=thing, position=position)

    def _go(self, passed, kept):
        there = [things[self._position] == self._thing for _, things in passed]
        for before, now in zip(there, there[1:]):
            if now and not before:
                self._arrivals += 1
        super()._go(passed, kept)


class StrollingCarrier(Stroller, Carrier):
    """A stroller with a task."""

    def __init__(self, network, *steps, thing, position):
        super().__init__(network, *steps, thing=thing, position=position)
