"""The parts of a network ([13], [14]) and the arrangements of their things ([23] to [26])."""

from math import factorial

from handwalk.checks import is_whole
from handwalk.moves import back
from handwalk.permutations import inverse, is_even
from handwalk.ratios import marks_of, same_ratio
from handwalk.searching import found_states, least_walk
from handwalk.turns import walk_with


class Part:
    """A part of the kind "all", in which every arrangement of its things is possible."""

    KIND = "all"

    def __init__(self, cell, passages, gate, way, inner):
        """Make a part from what the function parts has found.

        The way leads from place 0 to the entry. The inner network consists of the places and passages of the part
        alone, with the same order of the passages. Its place 0 is the entry, and its hand stands for the gate.
        """
        self._cell = cell
        self._passages = passages
        self._gate = gate
        self._way = way
        self._inner = inner
        self._seats = tuple(sorted([*passages, gate]))

    @property
    def name(self):
        """The least passage of the part."""
        return self._passages[0]

    @property
    def cell(self):
        """The ascending tuple of the places."""
        return self._cell

    @property
    def gate(self):
        """The position that is the gate: a bridge or the hand."""
        return self._gate

    @property
    def seats(self):
        """The ascending tuple of the passages and the gate."""
        return self._seats

    @property
    def rings(self):
        """The number of the rings."""
        return len(self._passages) - len(self._cell) + 1

    def arrangements(self):
        """Return how many arrangements the things of the part have."""
        return factorial(len(self._seats))

    def problem(self, things):
        """Return an answer that tells what is wrong with the things of the part, or None if nothing is."""
        strays = self.strays(things)
        return ("astray", strays[0]) if strays else None

    def strays(self, things):
        """Return the list of the things of the part that are not at its seats."""
        return [thing for thing in self._seats if things.index(thing) not in self._seats]

    def confirms(self, things, word, details):
        """Return True if the answer with this word, the name of the part and these details is right, for any details.

        No thing of the part is astray.
        """
        return False

    def filling(self, kinds, pattern):
        """Return the tuple of the things on the seats in a possible arrangement with this pattern, or None.

        The kinds are those of the things. The tuple has the order of the seats.
        """
        waiting = list(self._seats)
        filling = []
        for seat in self._seats:
            fitting = [thing for thing in waiting if kinds[thing] == pattern[seat]]
            if not fitting:
                return None
            filling.append(fitting[0])
            waiting.remove(fitting[0])
        return tuple(filling)

    def pattern_count(self, kinds):
        """Return how many patterns on the seats are possible with things of these kinds."""
        many = factorial(len(self._seats))
        shown = [kinds[thing] for thing in self._seats]
        for kind in sorted(set(shown)):
            many = many // factorial(shown.count(kind))
        return many

    def round_walk(self, things):
        """Return a walk from place 0 to place 0 that moves just the things of the part.

        Each one comes from the seat with its number to its present seat. There is no problem with the things.
        """
        walk = self._inner_walk(things)
        if not walk:
            return ()
        way = self._way
        return way + walk + back(*way)

    def _inner_walk(self, things):
        """Return the piece of the round walk from the entry to the entry, in which the hand stands for the gate."""
        return self._passages_in(walk_with(self._inner, self._moved(things)))

    def _passages_in(self, walk):
        """Return the walk in the inner network as a walk in the whole one."""
        return tuple([self._passages[step] for step in walk])

    def _moved(self, things):
        """Return the permutation of [24], as one of the positions of the inner network."""
        seats = [*self._passages, self._gate]
        return tuple([seats.index(things.index(seat)) for seat in seats])


class EvenPart(Part):
    """A part of the kind "even": its things are moved by an even permutation."""

    KIND = "even"

    def arrangements(self):
        """Return how many arrangements the things of the part have."""
        return factorial(len(self._seats)) // 2

    def problem(self, things):
        """Return an answer that tells what is wrong with the things of the part, or None if nothing is."""
        problem = super().problem(things)
        if problem is None and not is_even(self._moved(things)):
            return ("odd", self.name)
        return problem

    def confirms(self, things, word, details):
        """Return True if the answer with this word and these details is right."""
        return word == "odd" and len(details) == 0 and not is_even(self._moved(things))

    def filling(self, kinds, pattern):
        """Return the tuple of the things on the seats in a possible arrangement with this pattern, or None."""
        filling = super().filling(kinds, pattern)
        if filling is None or is_even(tuple([self._seats.index(thing) for thing in filling])):
            return filling
        # Two things of the same kind may change their seats, which makes an odd permutation even.
        return _with_alike_exchanged(kinds, filling)

    def pattern_count(self, kinds):
        """Return how many patterns on the seats are possible with things of these kinds."""
        if _with_alike_exchanged(kinds, self._seats) is None:
            return self.arrangements()
        return super().pattern_count(kinds)


class RingPart(Part):
    """A part of the kind "ring": its things are a rotation of the circle."""

    KIND = "ring"

    def __init__(self, cell, passages, gate, way, inner):
        super().__init__(cell, passages, gate, way, inner)
        self._circle = (gate, *self._passages_in(_ring_of(inner)))

    @property
    def circle(self):
        """The tuple of the seats in the order of the ring, the gate first."""
        return self._circle

    def arrangements(self):
        """Return how many arrangements the things of the part have."""
        return len(self._circle)

    def problem(self, things):
        """Return an answer that tells what is wrong with the things of the part, or None if nothing is."""
        problem = super().problem(things)
        if problem is not None:
            return problem
        breaks = self._breaks(things)
        return ("ring", self.name, *breaks[0]) if breaks else None

    def confirms(self, things, word, details):
        """Return True if the answer with this word and these details is right."""
        if word != "ring" or len(details) != 2:
            return False
        x, y = details
        return is_whole(x) and is_whole(y) and (x, y) in self._breaks(things)

    def filling(self, kinds, pattern):
        """Return the tuple of the things on the seats in a possible arrangement with this pattern, or None."""
        return _first_showing(self._fillings(), kinds, [pattern[seat] for seat in self._seats])

    def pattern_count(self, kinds):
        """Return how many patterns on the seats are possible with things of these kinds."""
        return _count_shown(self._fillings(), kinds)

    def _fillings(self):
        """Return the list of the tuples of the things on the seats in all possible arrangements."""
        circle = self._circle
        found = []
        for turn in range(len(circle)):
            things = dict(zip(circle, circle[turn:] + circle[:turn]))
            found.append(tuple([things[seat] for seat in self._seats]))
        return found

    def _breaks(self, things):
        """Return the list of the pairs of things that follow each other in the circle, but not at their seats."""
        circle = self._circle
        following = dict(zip(circle, circle[1:] + circle[:1]))
        return [(x, y) for x, y in following.items() if things.index(y) != following[things.index(x)]]

    def _inner_walk(self, things):
        ring = self._circle[1:]
        # Every round moves all things by one seat.
        rounds = self._circle.index(things.index(self._gate))
        rounds_back = len(self._circle) - rounds
        if rounds <= rounds_back:
            return ring * rounds
        return back(*ring) * rounds_back


class SpecialPart(Part):
    """A part of the kind "special": its things keep all ratios."""

    KIND = "special"

    def __init__(self, cell, passages, gate, way, inner):
        super().__init__(cell, passages, gate, way, inner)
        marks = marks_of(inner)
        seats = [*passages, gate]
        self._marks = {seat: marks[position] for position, seat in enumerate(seats)}

    @property
    def marks(self):
        """The ascending tuple of the pairs of a seat and its mark."""
        return tuple([(seat, self._marks[seat]) for seat in self._seats])

    def arrangements(self):
        """Return how many arrangements the things of the part have."""
        return 120

    def problem(self, things):
        """Return an answer that tells what is wrong with the things of the part, or None if nothing is."""
        problem = super().problem(things)
        if problem is not None:
            return problem
        # The ratios with three fixed marks tell all other marks apart, so no other ratios need be compared.
        x1, x2, x3, *others = self._seats
        for x4 in others:
            four = (x1, x2, x3, x4)
            if not self.keeps_ratio(things, four):
                return ("ratio", self.name, four)
        return None

    def keeps_ratio(self, things, four):
        """Return True if the ratio of four different things of the part is the ratio of their present seats."""
        before = [self._marks[thing] for thing in four]
        present = [self._marks[things.index(thing)] for thing in four]
        return same_ratio(before, present)

    def confirms(self, things, word, details):
        """Return True if the answer with this word and these details is right."""
        if word != "ratio" or len(details) != 1:
            return False
        four = details[0]
        return self._is_four(four) and not self.keeps_ratio(things, four)

    def filling(self, kinds, pattern):
        """Return the tuple of the things on the seats in a possible arrangement with this pattern, or None."""
        return _first_showing(self._fillings(), kinds, [pattern[seat] for seat in self._seats])

    def pattern_count(self, kinds):
        """Return how many patterns on the seats are possible with things of these kinds."""
        return _count_shown(self._fillings(), kinds)

    def _fillings(self):
        """Return the list of the tuples of the things on the seats in all possible arrangements."""
        seats = [*self._passages, self._gate]
        found = []
        for place, order in found_states(self._inner):
            if place == 0:
                things = {seats[position]: seats[thing] for position, thing in enumerate(order)}
                found.append(tuple([things[seat] for seat in self._seats]))
        return found

    def _is_four(self, value):
        """Return True if the value is a tuple of four different things of the part."""
        if not isinstance(value, tuple) or len(value) != 4:
            return False
        if not all([is_whole(thing) and thing in self._seats for thing in value]):
            return False
        return len(set(value)) == 4

    def _inner_walk(self, things):
        # The 480 states of such a part are soon searched.
        goal = (0, inverse(self._moved(things)))
        return self._passages_in(least_walk(self._inner, goal))


def _ring_of(inner):
    """Return the walk through the only ring of a network from place 0, beginning with the lesser passage there."""
    walk = [inner.passages_at(0)[0]]
    place = inner.far_end(walk[0], 0)
    while place != 0:
        onward = [passage for passage in inner.passages_at(place) if passage != walk[-1]]
        walk.append(onward[0])
        place = inner.far_end(onward[0], place)
    return tuple(walk)


def _with_alike_exchanged(kinds, things):
    """Return the tuple of the things with two of the same kind exchanged, or None if no two have the same kind."""
    shown = [kinds[thing] for thing in things]
    for later, kind in enumerate(shown):
        earlier = shown.index(kind)
        if earlier < later:
            exchanged = list(things)
            exchanged[earlier], exchanged[later] = things[later], things[earlier]
            return tuple(exchanged)
    return None


def _first_showing(fillings, kinds, wanted):
    """Return the first one of the tuples of things that shows the list of kinds that is wanted, or None."""
    for filling in fillings:
        if [kinds[thing] for thing in filling] == wanted:
            return filling
    return None


def _count_shown(fillings, kinds):
    """Return how many different patterns the tuples of things show."""
    return len({tuple([kinds[thing] for thing in filling]) for filling in fillings})
