"""Breadth-first search through all states, for networks that have few of them."""

from handwalk.moves import after_step


def found_states(network):
    """Return the dict from every reachable state to the pair of its distance and a last step.

    It is the last step of the least one of the shortest walks that lead to the state, or None for the start.
    """
    found = {network.start: (0, None)}
    outermost = [network.start]
    while outermost:
        # The states of one distance stand in the order of their least walks, and their exits are tried in ascending
        # order. So whoever comes to a new state first comes by its least walk.
        reached = []
        for state in outermost:
            distance = found[state][0] + 1
            for step in network.passages_at(state[0]):
                goal = after_step(network, state, step)
                if goal not in found:
                    found[goal] = (distance, step)
                    reached.append(goal)
        outermost = reached
    return found


def least_walk(network, state):
    """Return the least one of the shortest walks from the start to the state, or None if there is none."""
    found = found_states(network)
    if state not in found:
        return None
    steps = []
    while state != network.start:
        last = found[state][1]
        steps.append(last)
        # The same step once more leads back ([20]).
        state = after_step(network, state, last)
    return tuple(steps[::-1])
