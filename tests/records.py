"""A plain record of what a walker has done, against which walkers are checked."""

import copy

from handwalk.walkers import Carrier, Stroller, StrollingCarrier, Walker
from tests import oracle

CLASSES = (Walker, Stroller, Carrier, StrollingCarrier)
MOST = 1000


class Record:
    """The steps of a walker of one of the four classes, and how often the thing arrived."""

    def __init__(self, maker, network, thing=None, position=None):
        self.maker = maker
        self.network = network
        self.thing, self.position = thing, position
        self.strolls = maker in (Stroller, StrollingCarrier)
        self.carries = maker in (Carrier, StrollingCarrier)
        self.states = [oracle.start_of(network)]
        self.steps = []
        self.arrivals = 0

    @property
    def state(self):
        return self.states[-1]

    def made(self, *steps):
        """Return a new walker of the class with the task of the record."""
        if self.carries:
            return self.maker(self.network, *steps, thing=self.thing, position=self.position)
        return self.maker(self.network, *steps)

    def twin(self):
        found = copy.copy(self)
        found.states, found.steps = list(self.states), list(self.steps)
        return found

    def take(self, step):
        """Take one step and return None, or return "step" or "limit" if it is refused."""
        before = self.state
        reached = oracle.step_from(self.network, before, step)
        if reached is None:
            return "step"
        if self.strolls and self.steps and self.steps[-1] == step:
            self.steps.pop()
            self.states.pop()
        elif len(self.steps) == MOST:
            return "limit"
        else:
            self.steps.append(step)
            self.states.append(reached)
        if self.carries and self.there(reached) and not self.there(before):
            self.arrivals += 1
        return None

    def there(self, state):
        return state[1].index(self.thing) == self.position

    def after(self, steps):
        """Return a further record after the steps and None, or the word of take and the index of the refused step."""
        twin = self.twin()
        for index, step in enumerate(steps):
            refused = twin.take(step)
            if refused:
                return None, (refused, index)
        return twin, None

    def after_any(self, steps):
        """Return the record after the steps and None, or None and the index of the first value that is no step."""
        wrong = [k for k, step in enumerate(steps) if type(step) is not int or not 0 <= step < 17]
        after, refused = self.after(steps[:wrong[0]] if wrong else steps)
        if refused is not None:
            return None, refused[1]
        return (None, wrong[0]) if wrong else (after, None)

    def back(self):
        self.steps.pop()
        self.states.pop()

    def left(self):
        place, things = self.state
        walks = oracle.all_spots(self.network, (place, things.index(self.thing)))
        walk = oracle.least_of([walk for spot, walk in walks.items() if spot[1] == self.position])
        return None if walk is None else len(walk)

    def summary(self):
        place, things = self.state
        found = (place, things[-1], len(self.steps))
        return found + (self.there(self.state), self.left()) if self.carries else found

    def text(self):
        lines = ["network " + str(self.network.places)]
        lines += ["passage " + str(u) + " " + str(v) for u, v in self.network.passages]
        lines += [" ".join(["walk", *map(str, self.steps)])]
        return "\n".join(lines)

    def choices(self):
        found = [(step, oracle.step_from(self.network, self.state, step)) for step in range(len(self.network.passages))]
        return [pair for pair in found if pair[1] is not None]


def tasks(network, rng, many):
    """Return some pairs of a thing and a position."""
    size = len(network.passages) + 1
    return [(rng.randrange(size), rng.randrange(size)) for _ in range(many)]


def records(network, rng):
    """Return records of new walkers of all classes in the network."""
    found = []
    for maker in CLASSES:
        for thing, position in tasks(network, rng, 2) if maker in (Carrier, StrollingCarrier) else [(None, None)]:
            found.append(Record(maker, network, thing, position))
    return found


class RecordMixin:
    """Comparisons of a walker with its record."""

    def check(self, walker, record):
        self.assertIs(type(walker), record.maker)
        self.assertIs(walker.network, record.network)
        place, things = record.state
        self.assertEqual(walker.state, record.state)
        self.assertEqual((walker.place, walker.things, walker.hand), (place, things, things[-1]))
        self.assertEqual((walker.steps, len(walker)), (tuple(record.steps), len(record.steps)))
        self.assertIs(walker.is_home, record.state == oracle.start_of(record.network))
        self.assertEqual(walker.state, oracle.walked(record.network, oracle.start_of(record.network), walker.steps))
        if record.carries:
            self.assertEqual((walker.thing, walker.position), (record.thing, record.position))
            self.assertIs(walker.is_done, record.there(record.state))
            self.assertEqual(walker.arrivals, record.arrivals)

    def check_more(self, walker, record):
        """Check also what takes longer."""
        self.check(walker, record)
        self.assertEqual(list(walker.history()), record.states)
        self.assertEqual(list(walker.choices()), record.choices())
        self.assertEqual(walker.summary(), record.summary())
        self.assertEqual(walker.text(), record.text())
        if record.carries:
            self.assertEqual(walker.left(), record.left())
