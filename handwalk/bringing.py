"""Where single things can be brought ([40])."""

from handwalk.checks import is_index
from handwalk.errors import InvalidPlace, InvalidPosition, InvalidThing


def check_thing(network, value):
    """Raise InvalidThing if the value is not a thing of the network, for any value."""
    if not is_index(value, len(network) + 1):
        raise InvalidThing(value)


def check_position(network, value):
    """Raise InvalidPosition if the value is not a position of the network, for any value."""
    if not is_index(value, len(network) + 1):
        raise InvalidPosition(value)


def reachable_spots(network, thing):
    """Return the ascending tuple of all spots that the thing can reach from the start."""
    check_thing(network, thing)
    return tuple(sorted(_least_walks(network, (0, thing))))


def bring(network, thing, position, *, place=None):
    """Return the least one of the shortest walks from the start that brings the thing to the position, or None.

    If the place is not None, the walk also ends there.
    """
    check_thing(network, thing)
    check_position(network, position)
    if place is not None and not is_index(place, network.places):
        raise InvalidPlace(place)
    return bring_from(network, (0, thing), position, place)


def bring_from(network, spot, position, place):
    """Return what bring returns for a thing that is at this spot now."""
    walks = _least_walks(network, spot)
    for reached, walk in walks.items():
        if reached[1] == position and (place is None or reached[0] == place):
            return walk
    return None


def _least_walks(network, first):
    """Return the dict from all spots that a thing at the first one can reach to the least of the shortest walks there.

    Shorter walks stand before longer ones, and walks of the same length in ascending order.
    """
    walks = {first: ()}
    outermost = [first]
    while outermost:
        # As these spots stand in the order of their walks, whoever comes to a new spot first comes by its least walk.
        reached = []
        for spot in outermost:
            for step in network.passages_at(spot[0]):
                goal = _spot_after(network, spot, step)
                if goal not in walks:
                    walks[goal] = walks[spot] + (step,)
                    reached.append(goal)
        outermost = reached
    return walks


def _spot_after(network, spot, step):
    place, position = spot
    hand = len(network)
    exchanged = {step: hand, hand: step}
    return network.far_end(step, place), exchanged.get(position, position)
