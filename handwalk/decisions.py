"""The parts of a network, and which states can be reached ([21] to [26])."""

from handwalk.checks import is_index
from handwalk.errors import InvalidAnswer, InvalidWalk
from handwalk.moves import after, back, check_state, reduced
from handwalk.networks import Network
from handwalk.parts import EvenPart, Part, RingPart, SpecialPart
from handwalk.turns import odd_walk

_WORDS = ("walk", "astray", "ring", "odd", "ratio")


def parts(network):
    """Return the tuple of all parts, ascending by their names."""
    found = {}
    for cell in network.cells:
        passages = _passages_within(network, cell)
        if passages:
            found[passages[0]] = _make_part(network, cell, passages)
    return tuple([found[name] for name in sorted(found)])


def _passages_within(network, cell):
    found = []
    for passage, ends in enumerate(network.passages):
        u, v = ends
        if u in cell and v in cell:
            found.append(passage)
    return tuple(found)


def _make_part(network, cell, passages):
    gate, way, entry = _entrance(network, cell)
    inner = _inner_network(network, cell, passages, entry)
    if len(inner) == inner.places:
        return RingPart(cell, passages, gate, way, inner)
    if _is_special(inner):
        return SpecialPart(cell, passages, gate, way, inner)
    if odd_walk(inner) is None:
        return EvenPart(cell, passages, gate, way, inner)
    return Part(cell, passages, gate, way, inner)


def _entrance(network, cell):
    """Return the gate, the way from place 0 to the entry, and the entry."""
    way = network.way(0, cell[0])
    gate, length, entry = len(network), 0, 0
    place = 0
    for index, passage in enumerate(way):
        place = network.far_end(passage, place)
        # The way never leaves the cell again, so its last bridge is the one that leads into the cell.
        if passage in network.bridges:
            gate, length, entry = passage, index + 1, place
    return gate, way[:length], entry


def _inner_network(network, cell, passages, entry):
    """Return the network of the cell alone, in which the entry is place 0."""
    places = [entry] + [place for place in cell if place != entry]
    pairs = []
    for passage in passages:
        u, v = network.passages[passage]
        near, far = places.index(u), places.index(v)
        pairs.append((min(near, far), max(near, far)))
    return Network(len(places), tuple(pairs))


def _is_special(inner):
    """Return True if four places are joined by five passages that are no loops and join different pairs."""
    pairs = [(u, v) for u, v in inner.passages if u != v]
    return inner.places == 4 and len(inner) == 5 and len(set(pairs)) == 5


def is_reachable(network, state):
    """Return True if a walk leads from the start to the state, and False otherwise."""
    check_state(network, state)
    return _problem(parts(network), _things_at_home(network, state)) is None


def decide(network, state):
    """Return a walk that leads from the start to the state, or a reason why there is none."""
    check_state(network, state)
    found = parts(network)
    things = _things_at_home(network, state)
    problem = _problem(found, things)
    if problem is not None:
        return problem
    walk = ()
    for part in found:
        walk = walk + part.round_walk(things)
    way = network.way(state[0], 0)
    walk = walk + back(*way)
    return ("walk", reduced(*walk))


def _things_at_home(network, state):
    way = network.way(state[0], 0)
    _, things = after(network, state, *way)
    return things


def _problem(found, things):
    """Return an answer that tells what is wrong with the things at home, or None if they can be reached."""
    for thing in range(len(things)):
        if _is_astray(found, things, thing):
            return ("astray", thing)
    for part in found:
        problem = part.problem(things)
        if problem is not None:
            return problem
    return None


def _is_astray(found, things, thing):
    position = things.index(thing)
    for part in found:
        if thing in part.seats:
            return position not in part.seats
    return position != thing


def check_decision(network, state, answer):
    """Return the first item of the answer if the answer about the state is correct."""
    check_state(network, state)
    if not _begins_with_word(answer):
        raise InvalidAnswer("form")
    if not _is_correct(network, state, answer):
        raise InvalidAnswer(answer[0])
    return answer[0]


def _begins_with_word(answer):
    if not isinstance(answer, tuple) or len(answer) == 0:
        return False
    return isinstance(answer[0], str) and answer[0] in _WORDS


def _is_correct(network, state, answer):
    """Return True if the answer, which begins with one of the words, is correct."""
    word = answer[0]
    if len(answer) == 1:
        return False
    if word == "walk":
        return len(answer) == 2 and _leads_to(network, answer[1], state)
    things = _things_at_home(network, state)
    number = answer[1]
    if not is_index(number, len(things)):
        return False
    found = parts(network)
    if word == "astray":
        return len(answer) == 2 and _is_astray(found, things, number)
    for part in found:
        if part.name == number:
            return not part.strays(things) and part.confirms(things, word, answer[2:])
    return False


def _leads_to(network, walk, state):
    """Return True if the value is a walk from the start to the state, for any value."""
    if not isinstance(walk, tuple):
        return False
    start = network.start
    try:
        return after(network, start, *walk) == state
    except InvalidWalk:
        return False
