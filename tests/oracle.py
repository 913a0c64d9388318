"""What the document says of states, parts and answers, written down once more for the tests.

Nothing here uses the package but for the places and the passages of a network. Speed does not matter.
"""

import itertools
from fractions import Fraction


def far_end(network, passage, place):
    u, v = network.passages[passage]
    return {u: v, v: u}[place]


def step_from(network, state, passage):
    """Return the state after the step, or None if the number is not a step there."""
    place, things = state
    if passage not in range(len(network.passages)) or place not in network.passages[passage]:
        return None
    swapped = {passage: things[-1], len(things) - 1: things[passage]}
    return far_end(network, passage, place), tuple(swapped.get(k, thing) for k, thing in enumerate(things))


def walked(network, state, walk):
    """Return the state after the walk, or None if it is none."""
    for passage in walk:
        if state is not None:
            state = step_from(network, state, passage)
    return state


def start_of(network):
    return 0, tuple(range(len(network.passages) + 1))


def all_states(network):
    """Return the dict of the least shortest walks from the start to all states that have one."""
    walks = {start_of(network): ()}
    newest = dict(walks)
    while newest:
        reached = {}
        for state, walk in newest.items():
            for passage in range(len(network.passages)):
                goal = step_from(network, state, passage)
                if goal is not None and goal not in walks:
                    reached[goal] = min((*walk, passage), reached.get(goal, (99,)))
        walks.update(reached)
        newest = reached
    return walks


def least_way(network, place, goal):
    """Return the least one of the shortest walks between two places."""
    ways = {(): place}
    while goal not in ways.values():
        longer = {}
        for way, last in ways.items():
            for passage, ends in enumerate(network.passages):
                if last in ends:
                    longer[(*way, passage)] = far_end(network, passage, last)
        ways = longer
    return min(way for way, last in ways.items() if last == goal)


def home(network, state):
    """Return the things at home."""
    return walked(network, state, least_way(network, state[0], 0))[1]


def joined(network, place, passages):
    """Return the set of the places that are joined with the place by these passages."""
    places = {place}
    for _ in range(network.places):
        for passage in passages:
            if places & set(network.passages[passage]):
                places |= set(network.passages[passage])
    return places


class Described:
    """A part as [13], [14], [23], [24] and [26] describe it."""

    def __init__(self, network, cell, bridges):
        self.network = network
        self.cell = tuple(sorted(cell))
        self.passages = [e for e, (u, v) in enumerate(network.passages) if u in cell and v in cell]
        self.name = min(self.passages)
        self.gate, self.entry = len(network.passages), 0
        if 0 not in cell:
            [(self.gate, self.entry)] = [
                (e, place) for e in bridges for place in cell if place in network.passages[e]
                and not cell & joined(network, 0, set(range(len(network.passages))) - {e})
            ]
        self.seats = tuple(sorted([*self.passages, self.gate]))
        self.rings = len(self.passages) - len(cell) + 1
        self.kind = self.find_kind()
        self.circle = self.find_circle() if self.kind == "ring" else None
        self.marks = self.find_marks() if self.kind == "special" else None

    def passages_at(self, place):
        return [e for e in self.passages if place in self.network.passages[e]]

    def find_kind(self):
        pairs = [self.network.passages[e] for e in self.passages]
        if self.rings == 1:
            return "ring"
        if len(self.cell) == 4 and len(pairs) == 5 == len(set(pairs)) and all(u < v for u, v in pairs):
            return "special"
        for colors in itertools.product((0, 1), repeat=len(self.cell)):
            color = dict(zip(self.cell, colors))
            if all(color[u] != color[v] for u, v in pairs):
                return "even"
        return "all"

    def find_circle(self):
        trails = [((), self.entry)]
        for _ in self.passages:
            trails = [
                ((*trail, e), far_end(self.network, e, place)) for trail, place in trails
                for e in self.passages_at(place) if e not in trail
            ]
        return (self.gate, *min(trail for trail, place in trails if place == self.entry))

    def find_marks(self):
        threes = [place for place in self.cell if len(self.passages_at(place)) == 3]
        found = []
        for u, w in (threes, threes[::-1]):
            for b, s, b2, c, c2 in itertools.permutations(self.passages):
                (middle,) = set(self.network.passages[b]) - {u} if u in self.network.passages[b] else [None]
                if middle in (None, w) or set(self.network.passages[s]) != {u, w}:
                    continue
                if set(self.passages_at(middle)) != {b, b2} or set(self.passages_at(u)) != {b, s, c}:
                    continue
                if set(self.passages_at(far_end(self.network, c, u))) != {c, c2}:
                    continue
                if (u == self.entry and b < c) or (middle == self.entry and b < b2):
                    first = (1, 2) if u == self.entry else (2, 1)
                    found.append({self.gate: first[0], b: first[1], b2: 4, s: 3, c: "inf", c2: 0})
        [marks] = found
        return marks

    def strays(self, things):
        return [x for x in self.seats if things.index(x) not in self.seats]

    def ring_breaks(self, things):
        size = len(self.circle)
        pairs = [(self.circle[k], self.circle[(k + 1) % size]) for k in range(size)]
        follows = dict(pairs)
        return [(x, y) for x, y in pairs if follows[things.index(x)] != things.index(y)]

    def is_odd(self, things):
        places = [things.index(x) for x in self.seats]
        return sum(x > y for x, y in itertools.combinations(places, 2)) % 2 == 1

    def ratio(self, four):
        x1, x2, x3, x4 = [self.marks[seat] for seat in four]

        def minus(x, y):
            return 1 if "inf" in (x, y) else x - y

        ratio = Fraction(minus(x1, x3) * minus(x2, x4), minus(x1, x4) * minus(x2, x3))
        return ratio.numerator * pow(ratio.denominator, -1, 5) % 5

    def keeps(self, things, four):
        return self.ratio(four) == self.ratio([things.index(x) for x in four])

    def fits(self, things):
        """Return True if the things satisfy [22] to [26] as far as they concern this part."""
        if self.strays(things):
            return False
        if self.kind == "ring":
            return not self.ring_breaks(things)
        if self.kind == "even":
            return not self.is_odd(things)
        if self.kind == "special":
            return all(self.keeps(things, four) for four in itertools.permutations(self.seats, 4))
        return True

    def is_right(self, things, answer):
        """Return True if this answer, which has the form of an answer with a part, is right for this part."""
        word, name, *rest = answer
        if name != self.name or self.strays(things):
            return False
        if word == "ring":
            return self.kind == "ring" and tuple(rest) in self.ring_breaks(things)
        if word == "odd":
            return self.kind == "even" and self.is_odd(things)
        return self.kind == "special" and set(rest[0]) <= set(self.seats) and not self.keeps(things, rest[0])


def described_parts(network):
    """Return the list of the parts as the document describes them, ascending by their names."""
    numbers = set(range(len(network.passages)))
    bridges = [e for e in numbers if len(joined(network, 0, numbers - {e})) < network.places]
    cells = {tuple(sorted(joined(network, place, numbers - set(bridges)))) for place in range(network.places)}
    inner = [cell for cell in cells if any(set(network.passages[e]) <= set(cell) for e in numbers)]
    return sorted([Described(network, set(cell), bridges) for cell in inner], key=lambda part: part.name)


def astray(network, described, things):
    """Return the list of all things that are astray."""
    found = [x for part in described for x in part.strays(things)]
    seats = [x for part in described for x in part.seats]
    return sorted(found + [x for x in range(len(things)) if x not in seats and things[x] != x])


def is_reachable(network, described, things):
    return not astray(network, described, things) and all(part.fits(things) for part in described)


def is_right(network, described, state, answer):
    """Return True if the answer, which has the form of its word, is right."""
    if answer[0] == "walk":
        return walked(network, start_of(network), answer[1]) == state
    things = home(network, state)
    if answer[0] == "astray":
        return answer[1] in astray(network, described, things)
    return any(part.is_right(things, answer) for part in described)


def spot_after(network, spot, passage):
    """Return the spot of a thing after the step, or None if the number is not a step there."""
    place, position = spot
    hand = len(network.passages)
    if place not in network.passages[passage]:
        return None
    if position in (passage, hand):
        position = passage + hand - position
    return far_end(network, passage, place), position


def all_spots(network, spot):
    """Return the dict of the least shortest walks that bring a thing from the spot to all spots that it can reach."""
    walks = {spot: ()}
    newest = dict(walks)
    while newest:
        reached = {}
        for spot, walk in newest.items():
            for passage in range(len(network.passages)):
                goal = spot_after(network, spot, passage)
                if goal is not None and goal not in walks:
                    reached[goal] = min((*walk, passage), reached.get(goal, (99,)))
        walks.update(reached)
        newest = reached
    return walks


def least_of(walks):
    """Return the least one of the shortest walks, or None if there are none."""
    return min(walks, key=lambda walk: (len(walk), walk), default=None)


def pattern_of(kinds, things):
    return tuple(kinds[thing] for thing in things)
