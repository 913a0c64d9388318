"""States, steps and walks ([11], [12]), and what walks do to the contents of the positions ([20])."""

from handwalk.checks import is_index
from handwalk.errors import InvalidPlace, InvalidState, InvalidWalk
from handwalk.permutations import inverse, is_permutation


def check_state(network, state):
    """Raise InvalidState if the value is not a state of the network."""
    if not isinstance(state, tuple) or len(state) != 2:
        raise InvalidState("form")
    place, things = state
    if not is_index(place, network.places):
        raise InvalidState("place")
    if not is_permutation(things) or len(things) != len(network) + 1:
        raise InvalidState("arrangement")


def is_step(network, place, value):
    """Return True if the value is a step that can be taken at the place, for any value."""
    return is_index(value, len(network)) and place in network.passages[value]


def after_step(network, state, step):
    """Return the state after a step that can be taken."""
    place, things = state
    moved = list(things)
    moved[step], moved[-1] = things[-1], things[step]
    return (network.far_end(step, place), tuple(moved))


def trace(network, state, *steps):
    """Yield the state and then the states after every step."""
    check_state(network, state)
    yield state
    reached = state
    for index, step in enumerate(steps):
        if not is_step(network, reached[0], step):
            raise InvalidWalk(index)
        reached = after_step(network, reached, step)
        yield reached


def after(network, state, *steps):
    """Return the last state that trace yields."""
    last = None
    for reached in trace(network, state, *steps):
        last = reached
    return last


def back(*steps):
    """Return the tuple of the steps in reverse order."""
    return steps[::-1]


def reduced(*steps):
    """Return the tuple of the steps without pairs of equal neighbors, also those that meet when others are removed."""
    kept = []
    for step in steps:
        if kept and kept[-1] == step:
            kept.pop()
        else:
            kept.append(step)
    return tuple(kept)


def effect(network, place, *steps):
    """Return the permutation by which a walk from the place moves the contents of the positions."""
    if not is_index(place, network.places):
        raise InvalidPlace(place)
    _, things = network.start
    first = (place, things)
    # Every thing begins at the position with its number, so the last arrangement tells what came to each position.
    _, arrived = after(network, first, *steps)
    return inverse(arrived)
