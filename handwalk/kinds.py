"""Things of equal kinds, and the patterns that can be made of them ([50], [51])."""

from handwalk.checks import is_index
from handwalk.decisions import parts
from handwalk.errors import InvalidKinds

# Kinds are the integers below this number.
_KINDS = 10


def match(network, kinds, pattern):
    """Return an arrangement with this pattern with which the walker can be at place 0, or None if there is none."""
    _check_kinds(network, "kinds", kinds)
    _check_kinds(network, "pattern", pattern)
    things = list(range(len(kinds)))
    for part in parts(network):
        filling = part.filling(kinds, pattern)
        if filling is None:
            return None
        for seat, thing in zip(part.seats, filling):
            things[seat] = thing
    # The positions that are no seats still hold their own things, whose kinds need not be those of the pattern.
    shown = tuple([kinds[thing] for thing in things])
    return tuple(things) if shown == pattern else None


def count_patterns(network, kinds):
    """Return the number of possible patterns."""
    _check_kinds(network, "kinds", kinds)
    many = 1
    for part in parts(network):
        many = many * part.pattern_count(kinds)
    return many


def _check_kinds(network, part, value):
    """Raise InvalidKinds with the name of this part if the value does not hold one kind for each thing."""
    if not isinstance(value, tuple) or len(value) != len(network) + 1:
        raise InvalidKinds(part)
    for index, kind in enumerate(value):
        if not is_index(kind, _KINDS):
            raise InvalidKinds(part, index)
