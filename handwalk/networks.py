"""Networks of places and passages ([10] to [13])."""

from handwalk.checks import is_index, is_whole
from handwalk.errors import InvalidNetwork, InvalidPassage, InvalidPlace


def _is_passage(value, places):
    if not isinstance(value, tuple) or len(value) != 2:
        return False
    u, v = value
    return is_index(u, places) and is_index(v, places) and u <= v


def _first_wrong(values, places):
    """Return the index of the first value that is not a passage, or None."""
    for index, value in enumerate(values):
        if not _is_passage(value, places):
            return index
    return None


def _least_joined(places, passages):
    """Return the list of the least places with which the places are joined."""
    least = list(range(places))
    for u, v in passages:
        low = min(least[u], least[v])
        high = max(least[u], least[v])
        least = [low if place == high else place for place in least]
    return least


def _is_connected(places, passages):
    return _least_joined(places, passages) == [0] * places


def _fault(places, passages):
    """Return the part and the index for InvalidNetwork, or None if the network is valid."""
    if not is_whole(places) or not 1 <= places <= Network.MAX_PLACES:
        return ("places", None)
    if not isinstance(passages, tuple) or len(passages) > Network.MAX_PASSAGES:
        return ("passages", None)
    index = _first_wrong(passages, places)
    if index is not None:
        return ("passages", index)
    if not _is_connected(places, passages):
        return ("connection", None)
    return None


def _find_bridges(places, passages):
    return tuple([
        passage for passage in range(len(passages))
        if not _is_connected(places, passages[:passage] + passages[passage + 1:])
    ])


def _find_cells(places, passages, bridges):
    inner = [ends for passage, ends in enumerate(passages) if passage not in bridges]
    cells = {}
    for place, least in enumerate(_least_joined(places, inner)):
        cells.setdefault(least, []).append(place)
    return tuple([tuple(cells[least]) for least in sorted(cells)])


def _find_exits(places, passages):
    """Return for every place the tuple of the passages that have it as an end."""
    exits = []
    for place in range(places):
        exits.append(tuple([passage for passage, ends in enumerate(passages) if place in ends]))
    return tuple(exits)


class Network:
    """Places 0 to n - 1 and the passages that connect them, which never change."""

    MAX_PLACES = 12
    MAX_PASSAGES = 16

    def __init__(self, places, passages):
        fault = _fault(places, passages)
        if fault is not None:
            part, index = fault
            raise InvalidNetwork(part, index)
        self._places = places
        self._passages = passages
        self._start = (0, tuple(range(len(passages) + 1)))
        self._bridges = _find_bridges(places, passages)
        self._cells = _find_cells(places, passages, self._bridges)
        self._exits = _find_exits(places, passages)

    @staticmethod
    def is_valid(places, passages):
        """Return True if there is such a network, and False otherwise, for any value."""
        return _fault(places, passages) is None

    @classmethod
    def joined(cls, *passages):
        """Return the network with these passages and with just as many places as they need."""
        index = _first_wrong(passages, cls.MAX_PLACES)
        if index is not None:
            raise InvalidNetwork("passages", index)
        greatest = max([v for u, v in passages], default=0)
        return cls(greatest + 1, passages)

    @property
    def places(self):
        """The number of places."""
        return self._places

    @property
    def passages(self):
        """The tuple of the passages."""
        return self._passages

    @property
    def start(self):
        """The state in which every walk begins."""
        return self._start

    @property
    def bridges(self):
        """The ascending tuple of the numbers of the bridges."""
        return self._bridges

    @property
    def cells(self):
        """The ascending tuple of the cells."""
        return self._cells

    def __len__(self):
        return len(self._passages)

    def __eq__(self, other):
        return (isinstance(other, Network) and self._places == other._places
                and self._passages == other._passages)

    def passages_at(self, place):
        """Return the ascending tuple of the numbers of the passages that have the place as an end."""
        self._check_place(place)
        return self._exits[place]

    def far_end(self, passage, place):
        """Return the other end of a passage, or the same place for a loop."""
        if not is_index(passage, len(self._passages)):
            raise InvalidPassage(passage)
        if not is_whole(place) or place not in self._passages[passage]:
            raise InvalidPlace(place)
        return self._across(passage, place)

    def way(self, place, goal):
        """Return the least one, as tuples, of the shortest walks from the place to the goal."""
        self._check_place(place)
        self._check_place(goal)
        distances = self._distances_to(goal)
        walk = []
        while place != goal:
            step = self._nearing_step(place, distances)
            walk.append(step)
            place = self._across(step, place)
        return tuple(walk)

    def _check_place(self, value):
        if not is_index(value, self._places):
            raise InvalidPlace(value)

    def _across(self, passage, place):
        u, v = self._passages[passage]
        return v if place == u else u

    def _distances_to(self, goal):
        """Return the dict of the least numbers of steps from every place to the goal."""
        distances = {goal: 0}
        outermost = [goal]
        while outermost:
            reached = []
            for place in outermost:
                for passage in self._exits[place]:
                    far = self._across(passage, place)
                    if far not in distances:
                        distances[far] = distances[place] + 1
                        reached.append(far)
            outermost = reached
        return distances

    def _nearing_step(self, place, distances):
        # The least first step of a shortest walk begins the least shortest walk, as all of them are equally long.
        return min([
            passage for passage in self._exits[place]
            if distances[self._across(passage, place)] < distances[place]
        ])
