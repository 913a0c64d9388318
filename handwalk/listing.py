"""How many states can be reached, and lists of them ([25], [30])."""

from handwalk.decisions import parts
from handwalk.errors import LimitExceeded
from handwalk.moves import check_state
from handwalk.searching import found_states, least_walk

MAX_LISTED = 5000


def count_arrangements(network):
    """Return the number of the reachable states at place 0."""
    many = 1
    for part in parts(network):
        many = many * part.arrangements()
    return many


def count_states(network):
    """Return the number of all reachable states."""
    return count_arrangements(network) * network.places


def _check_count(network):
    if count_states(network) > MAX_LISTED:
        raise LimitExceeded(MAX_LISTED)


def states(network):
    """Yield the pairs of the distance and the state of all reachable states in ascending order."""
    _check_count(network)
    found = found_states(network)
    pairs = sorted([(found[state][0], state) for state in found])
    for pair in pairs:
        yield pair


def farthest(network):
    """Return the pair of the greatest distance and the ascending tuple of all states with this distance."""
    pairs = list(states(network))
    greatest = pairs[-1][0]
    return greatest, tuple([state for distance, state in pairs if distance == greatest])


def walk_to(network, state):
    """Return the least one of the shortest walks from the start to the state, or None if it is not reachable."""
    check_state(network, state)
    _check_count(network)
    return least_walk(network, state)
