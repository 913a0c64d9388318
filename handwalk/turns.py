"""Walks with a given effect, in a network that is one part of the kind "even" or "all".

A *turn* is a walk from a place to the same place that moves just three things. One turn is found. Every cycle of
three positions comes from it: a walk brings the things from these positions to the three that the turn moves, and the
same walk backwards brings them to their goals. Such cycles make up every even permutation.
"""

from handwalk.moves import back, effect, reduced
from handwalk.permutations import compose, cycles, inverse, is_even, order

# A long turn makes the whole answer long, so some more effects are tried for a shorter one.
_SHORT_TURN = 40
_ENOUGH_EFFECTS = 1000


def odd_walk(network):
    """Return a walk from place 0 to place 0 with an odd number of steps, or None if there is none."""
    for walk in _round_walks(network, 0):
        if len(walk) % 2 == 1:
            return walk
    return None


def walk_with(network, permutation):
    """Return a walk from place 0 to place 0 with this effect, which is even if the part is of the kind "even"."""
    walk = ()
    if not is_even(permutation):
        walk = odd_walk(network)
        permutation = compose(inverse(effect(network, 0, *walk)), permutation)
    wanted = _three_cycles(permutation)
    if wanted:
        place, turn = _find_turn(network)
        triple = cycles(effect(network, place, *turn))[0]
        origins = _find_origins(network, (place, *triple))
        for cycle in wanted:
            walk = walk + _cycle_walk(origins, turn, cycle)
    return reduced(*walk)


def _round_walks(network, place):
    """Return walks from the place to the same place of which, with their reverses, all others are composed."""
    ways = [network.way(place, goal) for goal in range(network.places)]
    walks = []
    for passage, ends in enumerate(network.passages):
        u, v = ends
        walk = ways[u] + (passage,) + ways[v][::-1]
        walk = reduced(*walk)
        if walk:
            walks.append(walk)
    return walks


def _three_cycles(permutation):
    """Return cycles of three positions whose composition, the first one first, is the even permutation."""
    found = []
    exchanges = []
    for cycle in cycles(permutation):
        for at in range(1, len(cycle) - 1, 2):
            found.append((cycle[0], cycle[at], cycle[at + 1]))
        if len(cycle) % 2 == 0:
            exchanges.append((cycle[0], cycle[-1]))
    for at in range(0, len(exchanges), 2):
        x, y = exchanges[at]
        z, w = exchanges[at + 1]
        found.append((x, y, z))
        found.append((x, w, z))
    return found


def _find_turn(network):
    """Return the pair of a place and a turn at this place."""
    _, place = max([(len(network.passages_at(place)), place) for place in range(network.places)])
    letters = _letters(network, place)
    _, positions = network.start
    walks = {positions: ()}
    newest = [positions]
    turn = None
    # All effects together make up a group that contains cycles of three, so a turn is found at last.
    while turn is None or (len(turn) > _SHORT_TURN and newest and len(walks) < _ENOUGH_EFFECTS):
        newest = _add_effects(walks, newest, letters)
        for moved in newest:
            times = _times_to_turn(moved)
            if times > 0 and (turn is None or times * len(walks[moved]) < len(turn)):
                turn = walks[moved] * times
    return place, reduced(*turn)


def _letters(network, place):
    """Return the pairs of a walk and its effect for the walks of which all walks to the same place are composed."""
    walks = _round_walks(network, place)
    walks = walks + [back(*walk) for walk in walks]
    return [(walk, effect(network, place, *walk)) for walk in walks]


def _add_effects(walks, newest, letters):
    """Add walks to the dict that end in one letter more than those with the newest effects; return the new effects."""
    added = []
    for moved in newest:
        for walk, turned in letters:
            both = tuple([turned[position] for position in moved])
            if both not in walks:
                walks[both] = walks[moved] + walk
                added.append(both)
    return added


def _times_to_turn(moved):
    """Return how often a walk with this effect is repeated to make it a turn, or 0 if that is not possible."""
    lengths = [len(cycle) for cycle in cycles(moved) if len(cycle) % 3 == 0]
    return order(moved) // 3 if lengths == [3] else 0


def _find_origins(network, first):
    """Return the dict of all spots, a place and three positions, to which walks bring the three things of the first.

    Each spot has the pair of the last step and the spot before it, and the first one None.
    """
    exits = []
    for place in range(network.places):
        exits.append([
            (step, network.far_end(step, place), _exchange(network, step)) for step in network.passages_at(place)
        ])
    origins = {first: None}
    outermost = [first]
    while outermost:
        reached = []
        for spot in outermost:
            place, x, y, z = spot
            for step, far, moved in exits[place]:
                goal = (far, moved[x], moved[y], moved[z])
                if goal not in origins:
                    origins[goal] = (step, spot)
                    reached.append(goal)
        outermost = reached
    return origins


def _exchange(network, step):
    """Return the list of the positions to which one step moves the contents of the positions."""
    hand = len(network)
    moved = list(range(hand + 1))
    moved[step], moved[hand] = hand, step
    return moved


def _cycle_walk(origins, turn, cycle):
    """Return a walk from place 0 to place 0 that moves the content of each position of the cycle to the next one."""
    x, y, z = cycle
    if (0, x, y, z) in origins:
        there = _walk_to_first(origins, (0, x, y, z))
        return there + turn + back(*there)
    # With four positions, walks bring the three things to half of all triples only.
    there = _walk_to_first(origins, (0, y, x, z))
    return there + back(*turn) + back(*there)


def _walk_to_first(origins, spot):
    steps = []
    while origins[spot] is not None:
        step, spot = origins[spot]
        steps.append(step)
    return tuple(steps)
